"""What might have been: the least moment of all sayings with a way through it, or a chase."""

import itertools
import random
import unittest

from mighthave.errors import NoRun, NoSayings
from mighthave.papers.might import might_have, shows_might
from mighthave.run.ways import stands_of, way_by
from mighthave.say.sayings import meant
from mighthave.say.told import slice_of
from tests import samples
from tests.definitions import greater, is_counts_by_definition, random_saying
from tests.refusals import NO_SAYINGS, check_anything, check_call, check_places, raised
from tests.samples import ALONE, DO, EMPTY, FREE, ODD, RELAY, WRITTEN, below, is_way_by_definition
from tests.samples import stands_by_definition
from tests.walked import least_of, otherwise

RUNS = list(samples.SMALL) + samples.random_runs(181, 24, 8)
LARGE = (samples.MANY, samples.LONG, samples.BUSY)
TRUE = ("all", ())
NEVER = ("all", (("hand", 0, ("done", 1)), ("hand", 0, ("not", ("done", 1)))))
TAKEN = ("hand", 1, ("done", 1))
SENT = ("hand", 0, ("done", 1))
NOT_SENT = ("hand", 0, ("not", ("done", 1)))


def is_paper(run, lots, thing):
    """Word for word by [22], of anything. lots: of each saying the set of its moments."""
    moments = samples.moments_by_definition(run)
    together = set(moments).intersection(*lots)
    if type(thing) is not tuple or len(thing) not in (2, 3):
        return False
    if len(thing) == 3:
        word, moment, way = thing
        if word != "might" or not together or not is_counts_by_definition(run, moment):
            return False
        if type(way) is not tuple or not all(type(hand) is int and 0 <= hand < len(run) for hand in way):
            return False
        return (moment == least_of(together) and is_way_by_definition(run, way)
                and moment in stands_by_definition(run, way))
    word, rows = thing
    return word == "never" and is_chase(run, moments, lots, rows)


def is_number(thing, most):
    return type(thing) is int and 0 <= thing < most


def is_chase(run, moments, lots, rows):
    front = (0,) * len(run)
    if type(rows) is not tuple or not all(type(row) is tuple for row in rows):
        return False
    if [len(row) for row in rows] != [3] * (len(rows) - 1) + [1]:
        return False
    for row in rows:
        if not is_number(row[0], len(lots)):
            return False
        above = [moment for moment in lots[row[0]] if below(front, moment)]
        if len(row) == 1:
            return above == []
        _, hand, count = row
        if not is_number(hand, len(run)) or type(count) is not int or count <= front[hand] or not above:
            return False
        if any(moment[hand] < count for moment in above):
            return False
        front = greater(front, least_of([moment for moment in moments if moment[hand] >= count]))
    return False


def drawn_sayings(seed, runs, many, depth=3, size=5):
    rng = random.Random(seed)
    for run in runs:
        for _ in range(many):
            sayings = tuple([random_saying(rng, run, depth, size) for _ in range(rng.choice((1, 1, 2, 2, 3, 4, 6)))])
            if rng.random() < 0.3:
                sayings = sayings[:5] + (rng.choice(sayings),)
            yield run, sayings, [set(meant(run, saying)) for saying in sayings]


class MightHave(unittest.TestCase):

    def test_by_all_moments(self):
        words = []
        for run, sayings, lots in drawn_sayings(182, RUNS, 20):
            paper = might_have(run, sayings)
            together = set.intersection(*lots)
            self.assertIs(True, is_paper(run, lots, paper), (run, sayings, paper))
            self.assertEqual("might" if together else "never", paper[0])
            self.assertIs(True, shows_might(run, sayings, paper))
            words.append(paper[0] if paper[0] == "might" else len(paper[1]))
        for word in ("might", 1, 2, 3, 4):
            self.assertGreater(words.count(word), 3, word)

    def test_one_saying(self):
        for run in RUNS + list(LARGE):
            word, moment, way = might_have(run, (("end",),))
            self.assertEqual(("might", tuple(map(len, run))), (word, moment))
            self.assertEqual(moment, stands_of(run, way)[-1])
            self.assertEqual(("might", (0,) * len(run)), might_have(run, (TRUE,))[:2])
            self.assertEqual(("never", ((0,),)), might_have(run, (NEVER,)))

    def test_told(self):
        self.assertEqual(("might", (1, 1), (0, 1, 0)), might_have(WRITTEN, (TAKEN,)))
        self.assertIn(might_have(WRITTEN, (TAKEN, NOT_SENT)), [("never", rows + ((1,),)) for rows in (
            ((0, 1, 1),), ((0, 0, 1),), ((0, 0, 1), (0, 1, 1)))])
        self.assertIn(might_have(WRITTEN, (NOT_SENT, TAKEN)), [("never", rows + ((0,),)) for rows in (
            ((1, 1, 1),), ((1, 0, 1),), ((1, 0, 1), (1, 1, 1)))])
        self.assertIn(might_have(WRITTEN, (TRUE, ("end",), ("begin",)))[1][-1], ((1,), (2,)))
        self.assertEqual(("might", (0,), ()), might_have(EMPTY, (("begin",), ("end",), TRUE)))

    def test_one_that_is_never_so(self):
        for run in RUNS:
            for sayings in ((NEVER, TRUE), (TRUE, NEVER), (("end",), NEVER, ("end",)), (NEVER,) * 6):
                word, rows = might_have(run, sayings)
                self.assertEqual("never", word)
                self.assertIs(NEVER, sayings[rows[-1][0]])
                self.assertIs(True, shows_might(run, sayings, ("never", ((sayings.index(NEVER),),))))

    def test_the_same_twice(self):
        for run, sayings, _ in drawn_sayings(183, RUNS, 3):
            least = slice_of(run, sayings[0])
            paper = might_have(run, (sayings[0],) * 3)
            if least is None:
                self.assertEqual(("never", ((0,),)), paper)
            else:
                self.assertEqual(("might", least[0]), paper[:2])

    def test_refusals(self):
        arguments = [("run", "run", WRITTEN), ("sayings", "sayings", (SENT, TAKEN))]
        check_call(self, might_have, arguments)
        check_places(self, might_have, arguments)
        for bad in ((), [SENT], SENT, (SENT,) * 7, None, {}, (SENT, [SENT])):
            for call in (might_have, lambda run, sayings: shows_might(run, sayings, None)):
                self.assertIs(NoSayings, type(raised(call, WRITTEN, bad)), bad)
        for bad in NO_SAYINGS:
            for sayings in ((bad,), (SENT, bad), (bad, SENT), (TAKEN, SENT, TAKEN, SENT, TAKEN, bad)):
                self.assertIs(NoSayings, type(raised(might_have, WRITTEN, sayings)), sayings)
        self.assertIs(NoSayings, type(raised(might_have, ALONE, (SENT, TAKEN))))
        self.assertIs(NoSayings, type(raised(might_have, ALONE, (("road", 0, 1, "most", 0),))))
        deep = TRUE
        for _ in range(6):
            deep = ("on", deep)
        self.assertIs(NoSayings, type(raised(might_have, WRITTEN, (TRUE, deep))))
        self.assertIs(NoRun, type(raised(might_have, (), ())))


class ShowsMight(unittest.TestCase):

    def check(self, run, sayings, lots, thing):
        right = is_paper(run, lots, thing)
        self.assertIs(right, shows_might(run, sayings, thing), (run, sayings, thing))
        return right

    def test_all_chases_of_few_rows(self):
        moved = ((DO, DO), (DO, DO))
        one = (("hand", 0, ("or", (("done", 1), ("done", 2)))), ("hand", 0, ("not", ("done", 1))))
        cases = [
            (WRITTEN, (TAKEN, NOT_SENT)), (WRITTEN, (("end",), ("begin",))), (WRITTEN, (TAKEN, NEVER)),
            (moved, one), (WRITTEN, (SENT, TAKEN)),
        ]
        many = []
        for run, sayings in cases:
            lots = [set(meant(run, saying)) for saying in sayings]
            rows = list(itertools.product(range(3), range(3), range(4))) + [(0,), (1,), (2,)]
            told = [self.check(run, sayings, lots, ("never", ()))]
            for chase in itertools.chain(itertools.product(rows, repeat=1), itertools.product(rows, repeat=2)):
                told.append(self.check(run, sayings, lots, ("never", chase)))
            rows = [row for row in rows if row[0] < 2 and row[1:2] != (2,) and row[2:3] not in ((0,), (3,))]
            for chase in itertools.product(rows, repeat=3):
                told.append(self.check(run, sayings, lots, ("never", chase)))
            many.append(told.count(True))
        self.assertEqual(0, many[-1])
        self.assertGreater(min(many[:-1]), 0)
        self.assertGreater(max(many), 2)

    def test_all_ways(self):
        for run in (WRITTEN, ((DO, DO), (DO,)), EMPTY, ((DO,), (DO,))):
            for saying in (TRUE, ("end",), ("hand", 0, ("done", 1)), ("holds", 0, ("end",)), NEVER):
                lots = [set(meant(run, saying))]
                told = []
                hands = [row for many in range(len(samples.places(run)) + 2)
                         for row in itertools.product(range(len(run) + 1), repeat=many)]
                for moment in samples.moments_by_definition(run):
                    told += [self.check(run, (saying,), lots, ("might", moment, way)) for way in hands]
                self.assertIs(might_have(run, (saying,))[0] == "might", True in told)

    def test_papers_otherwise(self):
        rng = random.Random(184)
        told = []
        for run, sayings, lots in drawn_sayings(185, RUNS, 10):
            paper = might_have(run, sayings)
            for _ in range(12):
                told.append(self.check(run, sayings, lots, otherwise(rng, run, paper)))
            if paper[0] == "never":
                told += [self.check(run, sayings, lots, thing) for thing in other_chases(rng, run, paper[1])]
        self.assertGreater(told.count(True), 100)
        self.assertGreater(told.count(False), 2000)

    def test_another_moment_or_a_way_that_passes_it_by(self):
        sayings = (("hand", 0, ("done", 1)), ("hand", 2, ("done", 2)))
        word, moment, way = might_have(FREE, sayings)
        self.assertEqual(("might", (1, 0, 2)), (word, moment))
        self.assertIs(True, shows_might(FREE, sayings, (word, moment, (2, 0, 2, 1, 0, 2))))
        self.assertIs(True, shows_might(FREE, sayings, (word, moment, (0, 2, 2, 2, 0, 1))))
        for bad in ((1, 2, 2, 0, 0, 2), (2, 2, 2, 0, 1, 0), (0, 2, 2), (0, 2, 2, 0, 1, 2, 2), list(way), way[:-1]):
            self.assertIs(False, shows_might(FREE, sayings, (word, moment, bad)), bad)
        through = way_by(FREE, moments=(moment, (1, 1, 2)))
        self.assertIs(True, shows_might(FREE, sayings, (word, moment, through)))
        for other in ((1, 1, 2), (1, 0, 1), (0, 0, 2), [1, 0, 2], (True, 0, 2), (1, 0), (1, 0, 2, 0), None, ()):
            self.assertIs(False, shows_might(FREE, sayings, (word, other, through)), other)

    def test_rows_otherwise(self):
        sayings = (("hand", 2, ("done", 2)), ("hand", 0, ("not", ("done", 2))), ("hand", 1, ("not", ("done", 2))))
        rows = ((0, 2, 2), (1,))
        self.assertIs(True, shows_might(RELAY, sayings, ("never", rows)))
        right = (((0, 2, 2), (2,)), ((0, 2, 1), (0, 2, 2), (1,)), ((0, 1, 3), (2,)), ((0, 0, 2), (1,)),
                 ((0, 1, 2), (0, 1, 3), (2,)), ((0, 0, 1), (0, 1, 3), (0, 2, 2), (2,)), ((0, 1, 2), (1,)))
        for chase in right:
            self.assertIs(True, shows_might(RELAY, sayings, ("never", chase)), chase)
        wrong = (
            (), ((0, 2, 2),), ((1,),), ((2,),), ((1,), (0, 2, 2)), ((0, 2, 2), (0,)), ((0, 2, 3), (1,)), (rows[0],) * 2,
            ((0, 2, 2), (0, 2, 2), (1,)), ((0, 2, 2), (1,), (1,)), ((0, 2, 2), (3,)), ((0, 2, 2), (-1,)),
            ((0, 2, 0), (1,)),
            ((1, 2, 2), (1,)), ((3, 2, 2), (1,)), ((0, 3, 1), (1,)), ((0, -1, 2), (1,)), ((-3, 2, 2), (1,)),
            ((0, 2, 2), (True,)), ((False, 2, 2), (1,)), ((0, 2, True), (0, 2, 2), (1,)), ((0, 2, 2), [1]),
            ([0, 2, 2], (1,)), ((0, 2), (1,)), ((0, 2, 2, 0), (1,)), ((0, 2, 2), (1, 0)), ((0, 2, 2), ()),
            ((0, 2, 2), 1),
            ((0, 0, 3), (1,)), ((0, 2, 12), (1,)), ((0, 2, 10 ** 39), (1,)), ((0, 0, 2), (0, 0, 1), (1,)), (None, (1,)),
        )
        for chase in wrong:
            self.assertIs(False, shows_might(RELAY, sayings, ("never", chase)), chase)
        for thing in (("never",), ("never", list(rows)), ["never", rows], ("never", rows, ()), ("might", rows), rows,
                      ("might", (0, 0, 0), ()), ("Never", rows), (None, rows), ("never", None)):
            self.assertIs(False, shows_might(RELAY, sayings, thing), thing)

    def test_of_anything(self):
        for sayings in ((TAKEN, NOT_SENT), (TRUE,), (NEVER,), (("end",), SENT)):
            check_anything(self, shows_might, WRITTEN, sayings)
        self.assertIs(True, shows_might(thing=("never", ((0,),)), sayings=(NEVER,), run=WRITTEN))
        way = way_by(WRITTEN)
        for thing in ODD:
            for paper in (("might", thing, way), ("might", (0, 0), thing), (thing, (0, 0), way),
                          ("might", (0, 0), (thing,) * 3)):
                self.assertIs(False, shows_might(WRITTEN, (TRUE,), paper), paper)
            for paper in (("never", thing), (thing, ((0,),)), ("never", (thing,)), ("never", ((thing,),)),
                          ("never", (thing, (0,))), ("never", ((thing, 0, 1), (0,))), ("never", ((0, thing, 1), (0,))),
                          ("never", ((0, 0, thing), (0,)))):
                self.assertIs(False, shows_might(WRITTEN, (SENT,), paper), paper)
        arguments = [("run", "run", WRITTEN), ("sayings", "sayings", (SENT, TAKEN))]
        check_call(self, lambda run, sayings: shows_might(run, sayings, []), arguments)


def other_chases(rng, run, rows):
    """The chase with two rows exchanged, counts of one fewer or more ahead, numbers and hands otherwise."""
    for _ in range(6):
        at = rng.randrange(len(rows))
        row = list(rows[at])
        row[rng.randrange(len(row))] += rng.choice((-1, 1))
        one, other = rng.randrange(len(rows)), rng.randrange(len(rows))
        exchanged = list(rows)
        exchanged[one], exchanged[other] = exchanged[other], exchanged[one]
        yield ("never", tuple(exchanged))
        yield ("never", rows[:at] + (tuple(row),) + rows[at:])
        yield ("never", rows[:at] + (tuple(row),) + rows[at + 1:])
        yield ("never", rows[:at] + rows[at + 1:])


class SixHandsAnd48Deeds(unittest.TestCase):

    def test_each_hand_at_half(self):
        for run in LARGE:
            sayings = tuple([("hand", hand, ("done", 6)) for hand in range(len(run))])
            word, moment, way = might_have(run, sayings)
            self.assertEqual("might", word)
            self.assertIn(moment, stands_of(run, way))
            self.assertTrue(all(count >= 6 for count in moment))
            self.assertIs(True, shows_might(run, sayings, (word, moment, way)))

    def test_letters_to_and_fro(self):
        run = samples.BUSY
        sayings = (("hand", 1, ("done", 9)), ("hand", 0, ("not", ("done", 8))), ("hand", 2, ("done", 3)))
        word, rows = might_have(run, sayings)
        self.assertEqual("never", word)
        self.assertIs(True, shows_might(run, sayings, (word, rows)))
        self.assertIs(True, shows_might(run, sayings, ("never", ((0, 0, 8), (1,)))))
        self.assertIs(True, shows_might(run, sayings, ("never", tuple([(0, 0, k) for k in range(1, 9)]) + ((1,),))))
        self.assertIs(False, shows_might(run, sayings, ("never", ((0, 0, 7), (1,)))))
        for run, sayings in [(run, sayings) for run, sayings, _ in drawn_sayings(186, [samples.CROSSED], 4)]:
            self.assertIs(True, shows_might(run, sayings, might_have(run, sayings)))

    def test_asked_again(self):
        sayings = (TAKEN, NOT_SENT)
        before = repr((WRITTEN, sayings))
        self.assertEqual(might_have(WRITTEN, sayings), might_have(sayings=sayings, run=WRITTEN))
        self.assertEqual(before, repr((WRITTEN, sayings)))


if __name__ == "__main__":
    unittest.main()

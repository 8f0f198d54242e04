"""What is told of sayings by their slices: tables, whether they hold, what one tells of another."""

import random
import unittest

from mighthave.errors import NoMoment, NoSaying
from mighthave.lots.ahead import each_on, till
from mighthave.lots.behind import each_back, since
from mighthave.lots.knowing import holding, knowing
from mighthave.lots.plain import begin_slice, end_slice, hand_slice, road_slice
from mighthave.lots.slices import is_slice, own_slice
from mighthave.lots.together import all_of, is_within
from mighthave.run.ways import stands_of, way_by
from mighthave.say.own import where
from mighthave.say.sayings import meant, size_of
from mighthave.say.told import are_one, is_always, is_ever, is_so, shows_tables, slice_of, tables_of, tells
from tests import samples
from tests.definitions import meaning, random_saying, slice_by_definition
from tests.refusals import check_anything, check_call, check_places, raised
from tests.samples import ALONE, ASKED, EMPTY, FREE, RELAY, WRITTEN
from tests.walked import otherwise

RUNS = list(samples.SMALL) + samples.random_runs(171, 30, 9)
LARGE = (samples.MANY, samples.LONG, samples.BUSY)
TRUE = ("all", ())
NEVER = ("all", (("hand", 0, ("done", 1)), ("hand", 0, ("not", ("done", 1)))))
IS_THREE = ("hand", 0, ("is", "x", 3))
TAKEN = ("hand", 1, ("done", 1))
SENT = ("hand", 0, ("done", 1))


def sayings_of(seed, many=8, runs=RUNS, depth=6, size=24):
    rng = random.Random(seed)
    return [(run, random_saying(rng, run, depth, size)) for run in runs for _ in range(many)]


def in_order(saying):
    """All sayings in it, the inner ones ahead: parts in order, itself last."""
    word, *rest = saying
    parts = rest[1:] if word in ("knows", "holds") else rest
    if word in ("hand", "road", "all"):
        parts = rest[0] if word == "all" else ()
    return [each for part in parts for each in in_order(part)] + [saying]


class Tables(unittest.TestCase):

    def test_each_word(self):
        run = ASKED
        p, q = ("hand", 0, ("least", "x", 1)), ("road", 1, 0, "most", 0)
        lot, also = hand_slice(run, 0, where(run, 0, p[2])), road_slice(run, 1, 0, "most", 0)
        told = {
            ("begin",): (begin_slice(run),),
            ("end",): (end_slice(run),),
            p: (lot,),
            q: (also,),
            ("all", ()): (own_slice(run),),
            ("all", (p,)): (lot, lot),
            ("all", (p, q, p)): (lot, also, lot, all_of(run, (lot, also))),
            ("till", p, q): (lot, also, till(run, lot, also)),
            ("till", q, p): (also, lot, till(run, also, lot)),
            ("since", p, q): (lot, also, since(run, lot, also)),
            ("since", q, p): (also, lot, since(run, also, lot)),
            ("on", p): (lot, each_on(run, lot)),
            ("back", q): (also, each_back(run, also)),
            ("knows", 1, p): (lot, knowing(run, 1, lot)),
            ("holds", 1, p): (lot, holding(run, 1, lot)),
            ("knows", 0, q): (also, knowing(run, 0, also)),
            ("holds", 0, q): (also, holding(run, 0, also)),
        }
        for saying, tables in told.items():
            self.assertEqual(tables, tables_of(run, saying), saying)
            self.assertIs(True, shows_tables(run, saying, tables))

    def test_inner_ones_ahead(self):
        for run, saying in sayings_of(172):
            told = tables_of(run, saying)
            within = in_order(saying)
            self.assertEqual(len(within), len(told))
            self.assertEqual(len(told), size_of(run, saying))
            for part, lot in zip(within, told):
                self.assertEqual(slice_by_definition(run, set(meant(run, part))), lot, (run, saying, part))
            self.assertEqual(told[-1], slice_of(run, saying))

    def test_word_for_word_along_ways(self):
        for run, saying in sayings_of(173, 6, [run for run in RUNS if len(samples.places(run)) <= 5], 5, 12):
            self.assertEqual(slice_by_definition(run, meaning(run, saying)), slice_of(run, saying), (run, saying))

    def test_a_part_that_stands_twice(self):
        lot = slice_of(WRITTEN, IS_THREE)
        twice = ("till", ("all", (IS_THREE, IS_THREE)), IS_THREE)
        self.assertEqual((lot, lot, lot, lot, lot), tables_of(WRITTEN, twice))

    def test_six_deep_and_24_in_one(self):
        deep = ("knows", 1, ("on", ("holds", 0, ("back", ("since", TRUE, ("begin",))))))
        self.assertEqual(7, len(tables_of(WRITTEN, deep)))
        inner = ("all", (IS_THREE, TAKEN, ("end",), ("begin",)))
        wide = ("all", (inner, inner, inner, ("till", TRUE, ("all", (SENT, SENT, TRUE, ("on", SENT))))))
        self.assertEqual(24, size_of(WRITTEN, wide))
        self.assertEqual(24, len(tables_of(WRITTEN, wide)))
        for run, saying in sayings_of(174, 3, LARGE):
            told = tables_of(run, saying)
            self.assertTrue(all([is_slice(run, lot) for lot in told]))
            self.assertIs(True, shows_tables(run, saying, told))

    def test_refusals(self):
        arguments = [("run", "run", WRITTEN), ("saying", "saying", ("on", IS_THREE))]
        for call in (tables_of, slice_of, is_ever, is_always):
            check_call(self, call, arguments)
            check_places(self, call, arguments)
            self.assertIs(NoSaying, type(raised(call, ALONE, TAKEN)))
            self.assertIs(NoSaying, type(raised(call, ALONE, ("road", 0, 1, "most", 0))))


class ShowsTables(unittest.TestCase):

    def test_with_one_thing_otherwise(self):
        rng = random.Random(175)
        many = 0
        for run, saying in sayings_of(176, 4, RUNS, 4, 8):
            told = tables_of(run, saying)
            self.assertIs(True, shows_tables(run, saying, told))
            for _ in range(8):
                thing = otherwise(rng, run, told)
                # By their texts truths and numbers are not the same.
                right = repr(thing) == repr(told)
                self.assertIs(right, shows_tables(run, saying, thing), (run, saying, thing))
                many += not right
            for at, lot in enumerate(told):
                without = told[:at] + told[at + 1:]
                self.assertIs(False, shows_tables(run, saying, without))
                self.assertIs(False, shows_tables(run, saying, told[:at] + (lot,) + told[at:]))
                for other in (None, own_slice(run), told[at - 1]):
                    self.assertIs(other == lot, shows_tables(run, saying, told[:at] + (other,) + told[at + 1:]))
                changed = told[:at] + told[at + 1:at + 2] + told[at:at + 1] + told[at + 2:]
                self.assertIs(changed == told, shows_tables(run, saying, changed))
        self.assertGreater(many, 500)

    def test_truths_and_lists(self):
        saying = ("all", (("begin",),))
        lot = ((0, 0), ((None, None), (None,)))
        self.assertIs(True, shows_tables(WRITTEN, saying, (lot, lot)))
        for thing in ([lot, lot], (lot, list(lot)), (lot, ((False, 0), lot[1])), (((0, False), lot[1]), lot), (lot,),
                      lot, (lot, ((0, 0), [(None, None), (None,)])), (lot, ((0, 0), ([None, None], (None,)))),
                      (lot, lot, lot), (lot, None), (None, lot), (), None, {0: lot, 1: lot}):
            self.assertIs(False, shows_tables(WRITTEN, saying, thing), thing)
        truth = ("hand", 0, ("done", 1))
        told = tables_of(WRITTEN, truth)
        self.assertEqual((((1, 0), (((1, 0), (2, 0)), ((1, 1),))),), told)
        self.assertIs(False, shows_tables(WRITTEN, truth, (((1, 0), (((True, 0), (2, 0)), ((1, 1),))),)))
        self.assertIs(False, shows_tables(WRITTEN, truth, (((1, 0), (((1, 0), (2, 0)), ((1, True),))),)))

    def test_of_anything(self):
        for saying in (TRUE, NEVER, ("end",), IS_THREE):
            check_anything(self, shows_tables, WRITTEN, saying)
        check_anything(self, shows_tables, EMPTY, TRUE)
        self.assertIs(False, shows_tables(thing=(None, None), saying=("on", ("begin",)), run=WRITTEN))
        self.assertIs(True, shows_tables(thing=(begin_slice(WRITTEN), None), saying=("on", ("begin",)), run=WRITTEN))
        arguments = [("run", "run", WRITTEN), ("saying", "saying", IS_THREE)]
        check_call(self, lambda run, saying: shows_tables(run, saying, []), arguments)


class Holding(unittest.TestCase):

    def test_by_meant(self):
        always, never = 0, 0
        for run, saying in sayings_of(177, 10, RUNS, 4, 8):
            fulfil = meant(run, saying)
            moments = samples.moments_by_definition(run)
            for moment in moments:
                self.assertIs(moment in fulfil, is_so(run, saying, moment))
            self.assertIs(fulfil != (), is_ever(run, saying))
            self.assertIs(len(fulfil) == len(moments), is_always(run, saying))
            always, never = always + is_always(run, saying), never + (not is_ever(run, saying))
        self.assertGreater(always, 10)
        self.assertGreater(never, 10)

    def test_always_and_never(self):
        for run in RUNS + list(LARGE):
            self.assertIs(True, is_always(run, TRUE))
            self.assertIs(True, is_always(run, ("till", TRUE, ("end",))))
            self.assertIs(True, is_always(run, ("since", TRUE, ("begin",))))
            self.assertIs(False, is_ever(run, NEVER))
            self.assertIs(False, is_always(run, NEVER))
            self.assertIs(True, is_ever(run, ("end",)))
            for stand in stands_of(run, way_by(run)):
                self.assertIs(True, is_so(run, TRUE, stand))
                self.assertIs(False, is_so(run, NEVER, stand))
                self.assertIs(stand == (0,) * len(run), is_so(run, ("begin",), stand))

    def test_refusals(self):
        arguments = [("run", "run", WRITTEN), ("saying", "saying", IS_THREE), ("moment", "moment", (1, 0))]
        check_call(self, is_so, arguments)
        check_places(self, is_so, arguments)
        self.assertIs(NoMoment, type(raised(is_so, WRITTEN, NEVER, (0, 1))))


class Tells(unittest.TestCase):

    def test_by_meant(self):
        words = []
        rng = random.Random(178)
        for run in RUNS:
            said = [random_saying(rng, run, 3, 5) for _ in range(6)] + [TRUE, NEVER, ("begin",)]
            for one in said:
                for other in rng.sample(said, 5):
                    lot, also = set(meant(run, one)), set(meant(run, other))
                    told = tells(run, one, other)
                    words.append(told[0])
                    if lot <= also:
                        self.assertEqual(("tells",), told)
                    else:
                        word, moment = told
                        self.assertEqual("beyond", word)
                        self.assertIn(moment, lot - also)
                    self.assertIs(lot == also, are_one(run, one, other))
        self.assertGreater(words.count("tells"), 200)
        self.assertGreater(words.count("beyond"), 200)

    def test_never_so_tells_each(self):
        for run in RUNS + list(LARGE):
            for other in (NEVER, TRUE, ("begin",), ("end",)):
                self.assertEqual(("tells",), tells(run, NEVER, other))
                self.assertEqual(("tells",), tells(run, other, TRUE))
            self.assertEqual("beyond", tells(run, TRUE, NEVER)[0])
            self.assertEqual(("beyond", (0,) * len(run)), tells(run, ("begin",), NEVER))

    def test_written_otherwise(self):
        self.assertIs(True, are_one(WRITTEN, SENT, IS_THREE))
        self.assertIs(True, are_one(WRITTEN, ("all", (SENT, TRUE)), ("on", IS_THREE)))
        self.assertIs(False, are_one(FREE, ("hand", 0, ("not", ("done", 1))), ("hand", 0, ("most", "x", 0))))
        self.assertIs(True, are_one(FREE, TRUE, ("hand", 0, ("most", "x", 0))))
        self.assertIs(False, are_one(WRITTEN, SENT, TAKEN))
        self.assertEqual(("tells",), tells(WRITTEN, TAKEN, SENT))
        self.assertEqual(("tells",), tells(WRITTEN, TAKEN, ("knows", 1, IS_THREE)))
        self.assertIn(tells(WRITTEN, SENT, TAKEN), (("beyond", (1, 0)), ("beyond", (2, 0))))
        # What a hand knows of what hangs on others is told it by a letter alone.
        self.assertIs(True, are_one(RELAY, ("knows", 2, ("hand", 0, ("done", 2))), ("hand", 2, ("done", 2))))

    def test_refusals(self):
        arguments = [("run", "run", WRITTEN), ("one", "saying", IS_THREE), ("other", "saying", ("end",))]
        for call in (tells, are_one):
            check_call(self, call, arguments)
            check_places(self, call, arguments)
            self.assertIs(NoSaying, type(raised(call, ALONE, SENT, TAKEN)))


class SixHandsAnd48Deeds(unittest.TestCase):

    def test_letters_to_and_fro(self):
        run = samples.BUSY
        told = ("hand", 0, ("done", 7))
        for depth in range(4):
            told = ("knows", 1 - depth % 2, told)
            self.assertEqual(depth + 2, len(tables_of(run, told)))
            self.assertIs(True, is_ever(run, told))
        self.assertIs(True, are_one(run, ("knows", 1, ("hand", 0, ("done", 7))), ("hand", 1, ("done", 7))))
        self.assertIs(False, is_ever(run, ("knows", 2, ("hand", 0, ("done", 7)))))
        self.assertEqual(("tells",), tells(run, ("hand", 1, ("done", 7)), ("hand", 0, ("done", 7))))
        self.assertIs(True, is_within(run, slice_of(run, told), slice_of(run, told[2])))

    def test_nested(self):
        run = samples.BUSY
        quiet = ("all", (("road", 0, 1, "most", 0), ("road", 1, 0, "most", 0)))
        self.assertIs(True, is_always(run, ("till", TRUE, ("till", TRUE, quiet))))
        self.assertIs(False, is_ever(run, ("on", quiet)) and is_always(run, ("on", quiet)))
        for run, saying in sayings_of(179, 6, LARGE):
            self.assertIs(slice_of(run, saying) is not None, is_ever(run, saying))

    def test_asked_again(self):
        saying = ("till", SENT, TAKEN)
        before = repr((WRITTEN, saying))
        for call in (tables_of, slice_of, is_ever, is_always):
            self.assertEqual(call(WRITTEN, saying), call(saying=saying, run=WRITTEN))
        for call in (tells, are_one):
            self.assertEqual(call(WRITTEN, saying, SENT), call(other=SENT, one=saying, run=WRITTEN))
        self.assertEqual(is_so(WRITTEN, saying, (1, 0)), is_so(moment=(1, 0), saying=saying, run=WRITTEN))
        self.assertEqual(before, repr((WRITTEN, saying)))


if __name__ == "__main__":
    unittest.main()

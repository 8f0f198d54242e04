"""What must have been: stretches by which all ways have it, or a way without."""

import itertools
import random
import unittest

from mighthave.errors import NoRun, NoTests
from mighthave.must.must import are_tests, must_have, shows_must
from mighthave.run.ways import all_moments, is_way, stands_of, way_by
from mighthave.say.own import stretches
from tests import samples
from tests.definitions import all_ways, holds_by_definition, random_test
from tests.refusals import NO_TESTS, NO_TESTS_ROWS, check_anything, check_call, check_places, raised
from tests.samples import DO, EMPTY, FREE, ODD, RELAY, WRITTEN, is_way_by_definition, known_pairs, send
from tests.samples import stands_by_definition, take
from tests.walked import otherwise

RUNS = list(samples.SMALL) + samples.random_runs(261, 60, 8)
LARGE = (samples.MANY, samples.LONG, samples.BUSY)
NEVER = ("and", (("done", 1), ("not", ("done", 1))))
ALWAYS = ("done", 0)
FIRST = ("not", ("done", 1))


def done(low, high):
    """From so many deeds to so many."""
    return ("and", (("done", low), ("not", ("done", high + 1)))) if high < 12 else ("done", low)


def counts_test(rng, many):
    """A test that holds at some counts, drawn, of a hand of so many deeds."""
    counts = sorted(rng.sample(range(many + 1), rng.randint(1, min(4, many + 1))))
    if len(counts) == 1:
        return done(counts[0], counts[0])
    return ("or", tuple([done(count, count) for count in counts]))


def drawn_tests(rng, run):
    hands = sorted(rng.sample(range(len(run)), rng.randint(1, len(run))))
    told = []
    for hand in hands:
        kind = rng.random()
        if kind < 0.7:
            told.append((hand, counts_test(rng, len(run[hand]))))
        elif kind < 0.9:
            told.append((hand, rng.choice((ALWAYS, FIRST, ("done", 1), ("done", len(run[hand]))))))
        else:
            told.append((hand, random_test(rng, 3, 6)))
    return tuple(told)


def cases(seed, runs, many):
    rng = random.Random(seed)
    for run in runs:
        for _ in range(many):
            yield run, drawn_tests(rng, run)


def hold_together(run, tests, moment):
    return all(holds_by_definition(run[hand], moment[hand], test) for hand, test in tests)


def stretches_by_definition(row, test):
    counts = [count for count in range(len(row) + 1) if holds_by_definition(row, count, test)]
    return [(low, high) for low in counts for high in counts if low <= high and low - 1 not in counts
            and high + 1 not in counts and all(count in counts for count in range(low, high + 1))]


def is_paper(run, tests, thing):
    """Word for word by [27], of anything."""
    if type(thing) is not tuple or len(thing) != 2 or type(thing[1]) is not tuple:
        return False
    word, rest = thing
    if word == "by":
        if not all(type(hand) is int and 0 <= hand < len(run) for hand in rest) or not is_way_by_definition(run, rest):
            return False
        return not any(hold_together(run, tests, moment) for moment in stands_by_definition(run, rest))
    if word != "must" or len(rest) != len(tests):
        return False
    for (hand, test), stretch in zip(tests, rest):
        if type(stretch) is not tuple or not all(type(count) is int for count in stretch):
            return False
        if stretch not in stretches_by_definition(run[hand], test):
            return False
    known = known_pairs(run)
    for ((hand, _), (start, _)), ((other, _), (_, end)) in itertools.permutations(list(zip(tests, rest)), 2):
        if start != 0 and end != len(run[other]) and ((hand, start - 1), (other, end)) not in known:
            return False
    return True


class MustHave(unittest.TestCase):

    def check(self, run, tests):
        paper = must_have(run, tests)
        must = all(any(hold_together(run, tests, moment) for moment in stands) for stands in all_ways(run))
        self.assertEqual("must" if must else "by", paper[0], (run, tests, paper))
        self.assertIs(True, is_paper(run, tests, paper), (run, tests, paper))
        self.assertIs(True, shows_must(run, tests, paper), (run, tests, paper))
        return paper

    def test_by_all_ways(self):
        told = []
        for run, tests in cases(262, RUNS + samples.random_runs(263, 80, 8), 8):
            told.append((self.check(run, tests)[0], len(tests)))
        for word, many in itertools.product(("must", "by"), (1, 2, 3)):
            self.assertGreater(told.count((word, many)), 25, (word, many))

    def test_all_tests_by_counts_of_small_runs(self):
        """Each set of counts of each hand."""
        runs = (WRITTEN, ((DO, DO), (DO, DO)), ((send(1), DO), (DO, take(0, 0))), ((send(1), take(1, 1)),
                (take(0, 0), send(0))), ((DO, DO, DO), (DO,)))
        told = []
        for run in runs:
            choices = [[set(counts) for many in range(len(row) + 2)
                        for counts in itertools.combinations(range(len(row) + 1), many)] for row in run]
            for sets in itertools.product(*choices):
                tests = tuple([(hand, among(counts)) for hand, counts in enumerate(sets)])
                told.append(self.check(run, tests)[0])
        self.assertGreater(min(told.count("must"), told.count("by")), 100)

    def test_single(self):
        for run in RUNS:
            for hand in range(len(run)):
                drawn = counts_test(random.Random(hand), 3)
                for test in (ALWAYS, FIRST, NEVER, ("done", len(run[hand])), done(1, 1), drawn):
                    word, rest = must_have(run, ((hand, test),))
                    spans = stretches(run, hand, test)
                    self.assertEqual("must" if spans else "by", word)
                    if spans:
                        self.assertEqual(1, len(rest))
                        self.assertIn(rest[0], spans)
                    else:
                        self.assertIs(True, is_way(run, rest))

    def test_never_and_always(self):
        for run in RUNS + list(LARGE):
            hands = range(len(run))
            self.assertEqual(("must", tuple([(0, len(row)) for row in run])),
                             must_have(run, tuple([(hand, ALWAYS) for hand in hands])))
            for hand in hands:
                word, way = must_have(run, tuple([(each, NEVER if each == hand else ALWAYS) for each in hands]))
                self.assertEqual("by", word)
                self.assertIs(True, is_way(run, way))
            self.assertEqual("must", must_have(run, tuple([(hand, FIRST) for hand in hands]))[0])
            ends = tuple([(hand, ("done", len(row))) for hand, row in enumerate(run)])
            self.assertEqual(("must", tuple([(len(row), len(row)) for row in run])), must_have(run, ends))

    def test_told(self):
        run = ((send(1), DO, DO), (DO, take(0, 0), DO))
        # Behind the take the letter was sent: hand 0 has begun its stretch.
        self.assertEqual(("must", ((1, 3), (0, 1))), must_have(run, ((0, ("done", 1)), (1, done(0, 1)))))
        word, way = must_have(run, ((0, ("done", 2)), (1, done(0, 1))))
        self.assertEqual("by", word)
        self.assertNotIn(True, [stand[0] >= 2 and stand[1] <= 1 for stand in stands_of(run, way)])
        self.assertEqual("by", must_have(run, ((0, done(1, 1)), (1, ("done", 2))))[0])

    def test_through_many_stretches(self):
        """Each of two hands can be away while the other one is there, time and again."""
        for many in range(1, 6):
            run = ((DO,) * (2 * many), (DO,) * (2 * many))
            evens = among(set(range(0, 2 * many + 1, 2)) if many < 4 else {0, 2, 4, 6})
            odds = among({1, 3, 5, 7}.intersection(range(2 * many)))
            self.check_large(run, ((0, odds), (1, odds)))
            self.check_large(run, ((0, evens), (1, odds)))
            self.check_large(run, ((0, evens), (1, evens)))

    def check_large(self, run, tests):
        """Where all ways are too many: the moments come to without all of them together tell."""
        paper = must_have(run, tests)
        self.assertIs(True, shows_must(run, tests, paper))
        self.assertEqual("by" if can_be_missed(run, tests) else "must", paper[0], (run, tests))
        return paper[0]

    def test_longer_runs(self):
        told = [self.check_large(run, tests) for run, tests in cases(264, samples.random_runs(265, 150, 22), 8)
                if len(all_moments(run, most=5000)) < 900]
        self.assertGreater(min(told.count("must"), told.count("by")), 150)


def among(counts):
    """A test that holds at these counts alone."""
    tests = [done(count, count) for count in sorted(counts)]
    if not tests:
        return NEVER
    return tests[0] if len(tests) == 1 else ("or", tuple(tests))


def can_be_missed(run, tests):
    """Whether END is come to, deed by deed, by moments at which not all tests hold."""
    end = tuple(map(len, run))
    free = {moment for moment in all_moments(run, most=5000) if not hold_together(run, tests, moment)}
    found = {(0,) * len(run)} & free
    waiting = list(found)
    while waiting:
        moment = waiting.pop()
        for hand in range(len(run)):
            further = moment[:hand] + (moment[hand] + 1,) + moment[hand + 1:]
            if further in free and further not in found:
                found.add(further)
                waiting.append(further)
    return end in found


class AreTests(unittest.TestCase):

    def test_how_many(self):
        run = samples.MANY
        rows = tuple([(hand, ("done", 1)) for hand in range(6)])
        for many in range(1, 7):
            self.assertIs(True, are_tests(run, rows[:many]))
            self.assertIs(True, are_tests(run, rows[6 - many:]))
        self.assertIs(False, are_tests(run, ()))
        for hand in (0, 5, 6, 7):
            self.assertIs(False, are_tests(run, rows + ((hand, ("done", 1)),)))

    def test_hands(self):
        for run in RUNS:
            for one, other in itertools.product(range(-1, 7), repeat=2):
                told = are_tests(run, ((one, ("done", 1)), (other, ("done", 2))))
                self.assertIs(0 <= one < other < len(run), told)
        for hand in (True, False, None, "0", (0,), [0], {}):
            self.assertIs(False, are_tests(WRITTEN, ((hand, ("done", 1)),)))

    def test_tests_within(self):
        for bad in NO_TESTS:
            self.assertIs(False, are_tests(WRITTEN, ((0, bad),)), bad)
            self.assertIs(False, are_tests(WRITTEN, ((0, ("done", 1)), (1, bad))), bad)
        deep = ("not", ("not", ("not", ("done", 1))))
        self.assertIs(True, are_tests(WRITTEN, ((0, deep), (1, deep))))
        self.assertIs(False, are_tests(WRITTEN, ((0, deep), (1, ("not", deep)))))

    def test_of_anything(self):
        check_anything(self, are_tests, WRITTEN)
        for thing in NO_TESTS_ROWS:
            self.assertIs(False, are_tests(WRITTEN, thing), thing)
        for odd in ODD:
            for thing in ((odd,), ((0, ("done", 1)), odd), ((odd, ("done", 1)),), ((0, odd),)):
                self.assertIs(False, are_tests(WRITTEN, thing), thing)
        self.assertIs(True, are_tests(thing=((1, ALWAYS),), run=WRITTEN))
        self.assertIs(NoRun, type(raised(are_tests, None, ((0, ALWAYS),))))


class ShowsMust(unittest.TestCase):

    def check(self, run, tests, thing):
        right = is_paper(run, tests, thing)
        self.assertIs(right, shows_must(run, tests, thing), (run, tests, thing))
        return right

    def test_all_ways_and_all_stretches(self):
        told = []
        for run, tests in cases(266, [run for run in RUNS if len(samples.places(run)) < 6], 6):
            spans = [stretches_by_definition(run[hand], test) + [(0, 0), (1, 1), (0, len(run[hand]))]
                     for hand, test in tests]
            hands = [hand for hand, row in enumerate(run) for _ in row]
            for way in set(itertools.permutations(hands)):
                told.append(self.check(run, tests, ("by", way)))
            for chosen in itertools.product(*spans):
                told.append(self.check(run, tests, ("must", chosen)))
        self.assertGreater(told.count(True), 500)
        self.assertGreater(told.count(False), 1000)

    def test_papers_otherwise(self):
        rng = random.Random(267)
        told = []
        for run, tests in cases(268, RUNS, 5):
            paper = must_have(run, tests)
            for thing in [otherwise(rng, run, paper) for _ in range(12)] + list(self.others(rng, run, tests, paper)):
                told.append(self.check(run, tests, thing))
        self.assertGreater(told.count(True), 300)
        self.assertGreater(told.count(False), 4000)

    def others(self, rng, run, tests, paper):
        """Stretches of other tests, shorter ones, none, exchanged; ways with a hand out, put in, otherwise."""
        word, rest = paper
        yield ("by" if word == "must" else "must", rest)
        yield (word, rest[::-1])
        yield (word, list(rest))
        yield (word, rest + rest[:1])
        yield (word, rest[1:])
        yield [word, rest]
        yield (word, rest, ())
        if not rest:
            return
        at, other = rng.randrange(len(rest)), rng.randrange(len(rest))
        changed = list(rest)
        changed[at], changed[other] = changed[other], changed[at]
        yield (word, tuple(changed))
        if word == "by":
            for hand in (rng.randrange(len(run)), len(run), -1, True, None, str(rest[at])):
                yield (word, rest[:at] + (hand,) + rest[at + 1:])
                yield (word, rest[:at] + (hand,) + rest[at:])
            return
        low, high = rest[at]
        for each in ((low + 1, high), (low, high - 1), (low, high + 1), (low - 1, high), (high, low), [low, high],
                     (low,), (low, high, high), None, (bool(low), high), (low, bool(high)), rng.choice(rest)):
            yield (word, rest[:at] + (each,) + rest[at + 1:])
        for each in stretches_by_definition(run[tests[at][0]], tests[at][1]):
            yield (word, rest[:at] + (each,) + rest[at + 1:])

    def test_another_right_one(self):
        run = ((DO, DO, DO, DO),)
        tests = ((0, among({0, 2, 4})),)
        for stretch in ((0, 0), (2, 2), (4, 4)):
            self.assertIs(True, shows_must(run, tests, ("must", (stretch,))))
        for stretch in ((1, 1), (3, 3), (0, 4), (0, 1), (5, 5)):
            self.assertIs(False, shows_must(run, tests, ("must", (stretch,))))
        tests = ((0, NEVER), (2, ALWAYS))
        for way in ((0, 0, 1, 2, 2, 2), (2, 1, 2, 0, 2, 0), way_by(FREE)):
            self.assertIs(True, shows_must(FREE, tests, ("by", way)))
        tests = ((0, done(1, 1)), (1, ("done", 1)))
        self.assertIs(True, shows_must(FREE, tests, ("by", (0, 0, 1, 2, 2, 2))))
        self.assertIs(True, shows_must(FREE, tests, ("by", (0, 2, 0, 2, 2, 1))))
        self.assertIs(False, shows_must(FREE, tests, ("by", (0, 1, 0, 2, 2, 2))))
        self.assertIs(False, shows_must(FREE, tests, ("by", (1, 0, 0, 2, 2, 2))))
        self.assertIs(False, shows_must(FREE, tests, ("by", (0, 0, 1, 2, 2))))

    def test_of_anything(self):
        for tests in (((0, ALWAYS), (1, ALWAYS)), ((0, NEVER),), ((1, FIRST),)):
            check_anything(self, shows_must, WRITTEN, tests)
            for odd in ODD:
                for thing in ((odd, ((0, 0),)), ("must", odd), ("by", odd), ("must", (odd,)), ("must", (odd, odd)),
                              ("by", (odd, odd, odd)), ("must", ((odd, 1),)), ("must", ((0, 2), (0, odd))), (odd, odd)):
                    before = repr(thing)
                    right = shows_must(WRITTEN, tests, thing)
                    self.assertIs(bool, type(right), thing)
                    self.assertIs(is_paper(WRITTEN, tests, thing), right)
                    self.assertEqual(before, repr(thing))
        self.assertIs(True, shows_must(thing=("must", ((0, 1),)), tests=((1, ALWAYS),), run=WRITTEN))


class SixHandsAnd48Deeds(unittest.TestCase):

    def test_very_many_ways(self):
        rng = random.Random(269)
        told = []
        for run in LARGE:
            for _ in range(60):
                tests = drawn_tests(rng, run)
                paper = must_have(run, tests)
                self.assertIs(True, shows_must(run, tests, paper))
                told.append(paper[0])
        self.assertGreater(min(told.count("must"), told.count("by")), 20)

    def test_letters_to_and_fro(self):
        """What each waits for the other one to do."""
        self.assertEqual("by", must_have(samples.BUSY, ((0, done(2, 2)), (1, done(3, 3))))[0])
        self.assertEqual(("must", ((3, 3), (2, 2))), must_have(samples.BUSY, ((0, done(3, 3)), (1, done(2, 2)))))
        tests = ((0, done(3, 4)), (1, done(4, 5)))
        self.assertEqual(("must", ((3, 4), (4, 5))), must_have(samples.BUSY, tests))
        self.assertEqual(("must", ((1, 4), (0, 2))), must_have(samples.BUSY, ((0, done(1, 4)), (1, done(0, 2)))))


class Refusals(unittest.TestCase):

    def test_each_argument(self):
        arguments = [("run", "run", WRITTEN), ("tests", "tests", ((0, ("done", 1)), (1, FIRST)))]
        check_call(self, must_have, arguments)
        check_places(self, must_have, arguments)
        check_call(self, lambda run, tests: shows_must(run, tests, []), arguments)
        self.assertIs(NoTests, type(raised(must_have, EMPTY, ((1, ALWAYS),))))

    def test_asked_again(self):
        tests = ((0, ("done", 1)), (2, done(1, 2)))
        before = repr((RELAY, tests))
        paper = must_have(RELAY, tests)
        self.assertEqual(paper, must_have(tests=tests, run=RELAY))
        self.assertIs(True, shows_must(thing=paper, tests=tests, run=RELAY))
        self.assertEqual(before, repr((RELAY, tests)))


if __name__ == "__main__":
    unittest.main()

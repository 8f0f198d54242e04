"""Sums: what they are, their worth at a moment, the gains of deeds."""

import random
import unittest

from mighthave.errors import NoMoment, NoRun, NoSum
from mighthave.sums.sums import gains_of, is_sum, sum_at
from tests import samples
from tests.definitions import moments_by_definition
from tests.refusals import NO_SUMS, check_anything, check_call, check_places, raised
from tests.samples import DO, EMPTY, FREE, HANDS_WITHOUT_DEEDS, ODD, WRITTEN, do
from tests.summed import gain_by_definition, random_sum, sum_by_definition

RUNS = list(samples.SMALL) + samples.random_runs(201, 60, 9)
LARGE = (samples.MANY, samples.LONG, samples.BUSY)


def sums_drawn(seed, runs, many):
    rng = random.Random(seed)
    for run in runs:
        for _ in range(many):
            yield run, random_sum(rng, run)


class IsSum(unittest.TestCase):

    def test_how_many(self):
        rows = tuple([(hand, name, 1) for hand in (0, 1) for name in ("a", "b", "c", "d", "e", "f", "g")])
        self.assertIs(False, is_sum(WRITTEN, ()))
        self.assertIs(True, is_sum(WRITTEN, rows[:1]))
        self.assertIs(True, is_sum(WRITTEN, rows[:12]))
        self.assertIs(False, is_sum(WRITTEN, rows[:13]))

    def test_weights(self):
        for weight, told in ((-9, True), (9, True), (0, True), (1, True), (-10, False), (10, False), (True, False),
                             (False, False), ("1", False), (None, False), ((1,), False), (10 ** 39, False)):
            self.assertIs(told, is_sum(WRITTEN, ((0, "a", weight),)), weight)
            self.assertIs(told, is_sum(WRITTEN, ((1, "b", 2), (0, "a", weight))), weight)

    def test_no_two_alike(self):
        first = (0, "a", 1)
        for other, told in (((0, "b", 1), True), ((1, "a", 1), True), ((0, "a", 1), False), ((0, "a", 2), False),
                            ((0, "a", -1), False), ((1, "b", 1), True), ((0, "aa", 1), True)):
            self.assertIs(told, is_sum(WRITTEN, (first, other)), other)
            self.assertIs(told, is_sum(WRITTEN, (other, first)), other)
            self.assertIs(told, is_sum(WRITTEN, (other, (1, "x", 9), first)), other)

    def test_rows_in_any_order(self):
        for total in (((0, "a", 1), (0, "b", 2), (1, "a", 3)), ((1, "a", 3), (0, "b", 2), (0, "a", 1)),
                      ((0, "b", 2), (1, "a", 3), (0, "a", 1))):
            self.assertIs(True, is_sum(WRITTEN, total))

    def test_names(self):
        for name, told in (("a", True), ("abcdef", True), ("abcdefg", False), ("", False), ("A", False), ("a1", False),
                           ("a ", False), (None, False), (0, False), (["a"], False), (("a",), False)):
            self.assertIs(told, is_sum(EMPTY, ((0, name, 1),)), name)

    def test_hands(self):
        for run in RUNS + list(LARGE):
            for hand in range(-2, 9):
                self.assertIs(0 <= hand < len(run), is_sum(run, ((hand, "a", 1),)))
        for hand in (True, False, None, "0", (0,), [0], 10 ** 39):
            self.assertIs(False, is_sum(WRITTEN, ((hand, "a", 1),)))

    def test_of_anything(self):
        check_anything(self, is_sum, WRITTEN)
        for thing in NO_SUMS:
            self.assertIs(False, is_sum(WRITTEN, thing), thing)
        for odd in ODD:
            for total in ((odd,), ((0, "a", 1), odd), ((odd, "a", 1),), ((0, odd, 1),), ((odd,) * 3,)):
                before = repr(total)
                known = odd == "send" and total == ((0, odd, 1),)
                self.assertIs(known, is_sum(WRITTEN, total), total)
                self.assertEqual(before, repr(total))
        self.assertIs(False, is_sum(thing=None, run=WRITTEN))

    def test_drawn(self):
        for run, total in sums_drawn(202, RUNS, 5):
            self.assertIs(True, is_sum(run, total))
            self.assertIs(False, is_sum(run, list(total)))
            self.assertIs(False, is_sum(run, total + total[:1]))


class SumAt(unittest.TestCase):

    def test_by_worths(self):
        for run, total in sums_drawn(203, RUNS, 6):
            for moment in moments_by_definition(run):
                told = sum_at(run, total, moment)
                self.assertEqual(sum_by_definition(run, total, moment), told)
                self.assertIs(int, type(told))

    def test_told(self):
        run = ((do(("a", 5)), do(("a", 5), ("b", 7)), do(("a", 1))), (do(("a", 99)), DO))
        self.assertEqual([0, 5, 5, 1], [sum_at(run, ((0, "a", 1),), (count, 0)) for count in range(4)])
        self.assertEqual([0, 0, -14, -14], [sum_at(run, ((0, "b", -2),), (count, 2)) for count in range(4)])
        self.assertEqual(9 * 5 - 9 * 99, sum_at(run, ((0, "a", 9), (1, "a", -9)), (1, 1)))
        self.assertEqual(0, sum_at(run, ((0, "a", 0), (1, "c", 9)), (3, 2)))
        self.assertEqual(0, sum_at(run, ((0, "abcdef", 9),), (3, 2)))
        self.assertEqual(3, sum_at(WRITTEN, ((0, "x", 1),), (2, 1)))

    def test_rows_in_any_order(self):
        rng = random.Random(204)
        for run, total in sums_drawn(205, RUNS[:30], 2):
            mixed = tuple(rng.sample(total, len(total)))
            for moment in moments_by_definition(run):
                self.assertEqual(sum_at(run, total, moment), sum_at(run, mixed, moment))

    def test_large(self):
        for run in LARGE:
            end = tuple(map(len, run))
            self.assertEqual(0, sum_at(run, tuple([(hand, "a", 9) for hand in range(len(run))]), end))
        run = tuple([(DO,) * 7 + (do(("a", 99)),)] * 6)
        self.assertEqual(6 * 9 * 99, sum_at(run, tuple([(hand, "a", 9) for hand in range(6)]), (8,) * 6))

    def test_refusals(self):
        arguments = [("run", "run", WRITTEN), ("total", "total", ((0, "x", 2),)), ("moment", "moment", (1, 0))]
        check_call(self, sum_at, arguments)
        check_places(self, sum_at, arguments)
        self.assertEqual(6, sum_at(moment=(1, 1), total=((0, "x", 2),), run=WRITTEN))
        self.assertIs(NoSum, type(raised(sum_at, EMPTY, ((1, "a", 1),), (0,))))
        self.assertIs(NoMoment, type(raised(sum_at, WRITTEN, ((1, "a", 1),), (0, 1))))


class Gains(unittest.TestCase):

    def test_by_moments(self):
        for run, total in sums_drawn(206, RUNS, 6):
            gains = gains_of(run, total)
            self.assertEqual([len(row) for row in run], [len(row) for row in gains])
            self.assertIs(tuple, type(gains))
            for hand, place in samples.places(run):
                self.assertEqual(gain_by_definition(run, total, (hand, place)), gains[hand][place])
                self.assertIs(tuple, type(gains[hand]))

    def test_whatever_stands_elsewhere(self):
        for run, total in sums_drawn(207, RUNS, 2):
            gains = gains_of(run, total)
            moments = moments_by_definition(run)
            for moment in moments:
                for hand in range(len(run)):
                    further = moment[:hand] + (moment[hand] + 1,) + moment[hand + 1:]
                    if further in moments:
                        self.assertEqual(gains[hand][moment[hand]],
                                         sum_at(run, total, further) - sum_at(run, total, moment))

    def test_told(self):
        run = ((do(("a", 5)), do(("a", 5), ("b", 7)), do(("a", 1))), (do(("a", 99)), DO), ())
        self.assertEqual(((10, 0, -8), (0, 0), ()), gains_of(run, ((0, "a", 2),)))
        self.assertEqual(((5, -7, -4), (99, 0), ()), gains_of(run, ((0, "a", 1), (0, "b", -1), (1, "a", 1))))
        self.assertEqual(((), (), ()), gains_of(HANDS_WITHOUT_DEEDS, ((2, "a", 9),)))
        self.assertEqual(((0, 0), (0,), (0, 0, 0)), gains_of(FREE, ((2, "a", 9),)))

    def test_refusals(self):
        arguments = [("run", "run", WRITTEN), ("total", "total", ((0, "x", 2),))]
        check_call(self, gains_of, arguments)
        check_places(self, gains_of, arguments)
        check_call(self, lambda run: is_sum(run, ()), arguments[:1])
        self.assertIs(NoRun, type(raised(is_sum, None, ())))


if __name__ == "__main__":
    unittest.main()

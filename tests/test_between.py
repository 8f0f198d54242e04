"""Any number between the least and the greatest of a sum."""

import random
import unittest

from mighthave.errors import NoNumber, NoSteps
from mighthave.lots.plain import begin_slice, end_slice
from mighthave.lots.slices import own_slice, spanned
from mighthave.run.ways import stands_of, way_by
from mighthave.sums.between import between
from mighthave.sums.flows import greatest_of, least_of
from mighthave.sums.sums import sum_at
from tests import samples
from tests.definitions import slice_by_definition
from tests.refusals import NO_NUMBERS, check_call, check_places, raised
from tests.samples import DO, ODD, WRITTEN, do, send, take
from tests.summed import open_gains, random_sum, sum_by_definition
from tests.walked import drawn_lots, knots_by_definition

A = ((0, "a", 1),)
UP_AND_DOWN = ((do(("a", 1)), do(("a", 2)), do(("a", 1)), do(("a", 0)), DO, do(("a", 1))), (DO, DO))


def by_ones(rng, run):
    """The run with sets by which each name goes up and down by one, or by two now and then."""
    rows = []
    for row in run:
        worths = {"a": 0, "b": 0}
        deeds = []
        for act, _ in row:
            name = rng.choice(("a", "b"))
            worths[name] = min(99, abs(worths[name] + rng.choice((-1, 1, 1, 0) * 5 + (2,))))
            deeds.append((act, ((name, worths[name]),)))
        rows.append(tuple(deeds))
    return tuple(rows)


def cases(seed, many):
    """Rows of a run, a lot of it, its slice, a sum."""
    rng = random.Random(seed)
    for run in [by_ones(rng, run) for run in samples.random_runs(seed, many, 10)]:
        for lot in drawn_lots(rng, run):
            total = tuple([(hand, name, rng.choice((-1, 1))) for hand in range(len(run)) for name in ("a", "b")])
            total = tuple(rng.sample(total, rng.randint(1, len(total))))
            yield run, set(lot), slice_by_definition(run, set(lot)), total


def no_steps(run, lot, total):
    """The first deed that stands in a knot, or gains otherwise than -1, 0, 1, or None."""
    knotted = [deed for knot in knots_by_definition(run, lot) for deed in knot]
    bad = [deed for deed, gain in open_gains(run, lot, total, 1).items() if gain not in (-1, 0, 1) or deed in knotted]
    return min(bad, default=None)


class Between(unittest.TestCase):

    def test_each_number(self):
        told, widths = [], []
        for run, lot, sliced, total in cases(241, 220):
            if not lot:
                continue
            numbers = [sum_by_definition(run, total, moment) for moment in lot]
            bad = no_steps(run, lot, total)
            for number in range(min(numbers) - 2, max(numbers) + 3):
                error = raised(between, run, sliced, total, number)
                if bad is not None:
                    self.assertIs(NoSteps, type(error), (run, sliced, total, number))
                    self.assertEqual(bad, error.deed)
                    told.append("steps")
                elif min(numbers) <= number <= max(numbers):
                    moment = between(run, sliced, total, number)
                    self.assertIn(moment, lot)
                    self.assertEqual(number, sum_by_definition(run, total, moment))
                    told.append("moment")
                else:
                    self.assertIs(NoNumber, type(error))
                    self.assertEqual(number, error.number)
                    told.append("number")
            widths.append(max(numbers) - min(numbers) if bad is None else -1)
        for word in ("steps", "moment", "number"):
            self.assertGreater(told.count(word), 300, word)
        for width in (0, 1, 2, 3, 4):
            self.assertGreater(widths.count(width), 8, width)

    def test_told(self):
        own = own_slice(UP_AND_DOWN)
        for number, counts in ((0, (0, 4, 5)), (1, (1, 3, 6)), (2, (2,))):
            self.assertIn(between(UP_AND_DOWN, own, A, number)[0], counts)
        for number in (-1, 3, 10 ** 39, -10 ** 39):
            error = raised(between, UP_AND_DOWN, own, A, number)
            self.assertIs(NoNumber, type(error))
            self.assertIs(number, error.number)

    def test_least_and_greatest_apart(self):
        """They stand at unlike hands: what both have is gone through."""
        run = (tuple([do(("a", k)) for k in (1, 2, 3, 4)]), tuple([do(("b", k)) for k in (1, 2, 3)]))
        total = ((0, "a", 1), (1, "b", -1))
        own = own_slice(run)
        self.assertEqual(((4, 0), (0, 3)), (greatest_of(run, own, total)[1], least_of(run, own, total)[1]))
        for number in range(-3, 5):
            self.assertEqual(number, sum_at(run, total, between(run, own, total, number)))
        part = spanned(run, ((1, 1), (1, 2), (2, 2), (2, 1), (3, 2)))
        for number in (-1, 0, 1):
            self.assertEqual(number, sum_at(run, total, between(run, part, total, number)))
        for number in (-2, 2):
            self.assertIs(NoNumber, type(raised(between, run, part, total, number)))

    def test_one_moment(self):
        run = ((do(("a", 50)), do(("a", 7))),)
        for told, number in ((begin_slice(run), 0), (end_slice(run), 7), (spanned(run, ((1,),)), 50)):
            self.assertEqual(number, sum_at(run, A, between(run, told, A, number)))
            for other in (number - 1, number + 1):
                self.assertIs(NoNumber, type(raised(between, run, told, A, other)))

    def test_none(self):
        for run in samples.SMALL:
            for number in (0, 1, -1, 10 ** 39, True, None, "0"):
                error = raised(between, run, None, A, number)
                self.assertIs(NoNumber, type(error))
                self.assertIs(number, error.number)


class Steps(unittest.TestCase):

    def check(self, deed, run, told, total, number=0):
        error = raised(between, run, told, total, number)
        self.assertIs(NoSteps, type(error))
        self.assertEqual(deed, error.deed)

    def test_gains(self):
        for worths, deed in (((0, 2, 0), (0, 1)), ((2,), (0, 0)), ((1, 2, 0), (0, 2)), ((1, 0, 1, 99, 0), (0, 3))):
            run = ((), tuple([do(("a", worth)) for worth in worths]))
            self.check((1, deed[1]), run, own_slice(run), ((1, "a", 1),))
            self.check((1, deed[1]), run, own_slice(run), ((1, "a", -1),), 10 ** 39)
            self.assertEqual((0, 0), between(run, begin_slice(run), ((1, "a", 1),), 0))
        self.check((0, 0), UP_AND_DOWN, own_slice(UP_AND_DOWN), ((0, "a", 2),))
        self.assertIn(between(UP_AND_DOWN, own_slice(UP_AND_DOWN), ((0, "a", 0),), 0)[0], range(7))

    def test_gains_that_make_up_for_each_other(self):
        run = ((do(("a", 5), ("b", 6)), do(("a", 6))),)
        total = ((0, "a", 1), (0, "b", -1))
        self.assertEqual((1,), between(run, own_slice(run), total, -1))
        self.assertIn(between(run, own_slice(run), total, 0), ((0,), (2,)))
        self.check((0, 0), run, own_slice(run), total[:1])

    def test_the_first_by_hands_then_places(self):
        run = ((DO, do(("a", 1)), do(("a", 3))), (do(("a", 7)), DO), (do(("a", 9)),))
        total = ((2, "a", 1), (1, "a", 1), (0, "a", 1))
        self.check((0, 2), run, own_slice(run), total)
        self.check((1, 0), run, own_slice(run), total[:2])
        self.check((2, 0), run, own_slice(run), total[:1])
        self.check((1, 0), run, spanned(run, ((2, 0, 0), (2, 1, 0))), total)

    def test_knots(self):
        run = ((DO, DO, DO), (DO, DO))
        told = spanned(run, ((0, 0), (2, 1), (3, 2)))
        self.assertEqual((((0, 0), (0, 1), (1, 0)), ((0, 2), (1, 1))), tuple(
            knots_by_definition(run, {(0, 0), (2, 1), (3, 2)})))
        self.check((0, 0), run, told, A)
        self.check((1, 0), run, spanned(run, ((0, 0), (0, 2))), A)
        self.check((0, 2), run, spanned(run, ((2, 0), (3, 2))), A)
        run = ((do(("a", 2)), DO, DO), (DO, DO))
        self.check((0, 0), run, spanned(run, ((0, 0), (1, 0), (1, 2))), A)
        self.check((1, 0), run, spanned(run, ((1, 0), (1, 2))), A, 10 ** 39)

    def test_deeds_of_the_least_and_barred_ones(self):
        """They may gain whatever they do."""
        run = ((do(("a", 50)), do(("a", 51)), do(("a", 50)), do(("a", 90))), (do(("a", 9)),))
        total = ((0, "a", 1), (1, "a", 1))
        told = spanned(run, ((1, 0), (2, 0), (3, 0)))
        for number in (50, 51):
            self.assertEqual(number, sum_at(run, total, between(run, told, total, number)))
        self.check((0, 3), run, spanned(run, ((1, 0), (2, 0), (3, 0), (4, 0))), total)
        self.check((0, 0), run, spanned(run, ((0, 0), (1, 0), (2, 0))), total)
        self.check((1, 0), run, spanned(run, ((1, 0), (1, 1))), total)

    def test_no_number_goes_ahead(self):
        run = ((do(("a", 2)),),)
        for number in (True, False, None, "0", (), (0,), [], {}):
            error = raised(between, run, own_slice(run), A, number)
            self.assertIs(NoNumber, type(error))
            self.assertIs(number, error.number)
        for number in (0, 1, 2, 3, -1, 10 ** 39):
            self.check((0, 0), run, own_slice(run), A, number)


class SixHandsAnd48Deeds(unittest.TestCase):

    def test_very_many_moments(self):
        rng = random.Random(251)
        for run in (samples.MANY, samples.LONG, samples.BUSY):
            run = tuple([tuple([(act, (("a", (1, 2, 3, 2, 1, 0)[k % 6]),)) for k, (act, _) in enumerate(row)])
                         for row in run])
            total = tuple([(hand, "a", rng.choice((-1, 1))) for hand in range(len(run))])
            for told in (own_slice(run), spanned(run, stands_of(run, way_by(run)))):
                low, high = least_of(run, told, total)[0], greatest_of(run, told, total)[0]
                self.assertGreater(high, low)
                for number in range(low, high + 1):
                    self.assertEqual(number, sum_at(run, total, between(run, told, total, number)))
                for number in (low - 1, high + 1):
                    self.assertIs(NoNumber, type(raised(between, run, told, total, number)))


class Refusals(unittest.TestCase):

    def test_each_argument(self):
        total = ((0, "y", 1),)
        arguments = [("run", "run", WRITTEN), ("lot", "lot", own_slice(WRITTEN)), ("total", "total", total),
                     ("number", "number", 0)]
        check_call(self, between, arguments)
        check_places(self, between, arguments)
        for bad in NO_NUMBERS + ODD + (1, -1):
            error = raised(between, WRITTEN, own_slice(WRITTEN), total, bad)
            self.assertIs(NoNumber, type(error))
            self.assertIs(bad, error.number)

    def test_asked_again(self):
        own = own_slice(UP_AND_DOWN)
        before = repr((UP_AND_DOWN, own, A))
        for number in (0, 1, 2):
            again = between(number=number, total=A, lot=own, run=UP_AND_DOWN)
            self.assertEqual(between(UP_AND_DOWN, own, A, number), again)
        self.assertEqual(before, repr((UP_AND_DOWN, own, A)))
        run = ((send(1), DO), (take(0, 0, ("a", 1)),))
        self.assertIn(between(run, own_slice(run), ((1, "a", 1),), 1), ((1, 1), (2, 1)))
        for total in [random_sum(random.Random(k), run, (-1, 0, 1), 3) for k in range(20)]:
            self.assertEqual(0, sum_at(run, total, between(run, own_slice(run), total, 0)))


if __name__ == "__main__":
    unittest.main()

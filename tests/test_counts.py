"""How many moments a lot has, all of them, the one of a number, the number of one."""

import itertools
import random
import unittest

from mighthave.count.counts import how_many, moment_at, moments_in, number_of
from mighthave.errors import NoMoment, NoNumber, NoRun, NoSlice, TooWide
from mighthave.lots.firsts import lies_in
from mighthave.lots.plain import begin_slice, end_slice, hand_slice, road_slice
from mighthave.lots.slices import barred_in, knots_in, own_slice, spanned
from mighthave.run.ways import MOST, MOST_EVER, all_moments, stands_of, way_by
from mighthave.say.told import slice_of
from tests import samples
from tests.definitions import all_lots, moments_by_definition, random_saying, slice_by_definition
from tests.papers import lots_of
from tests.refusals import check_call, check_places, raised
from tests.samples import ASKED, DO, EMPTY, FREE, HANDS_WITHOUT_DEEDS, WRITTEN
from tests.walked import TINY

RUNS = list(samples.SMALL) + samples.random_runs(191, 24, 9)
LARGE = (samples.MANY, samples.LONG, samples.BUSY)
OWN = ((0, 0), (((1, 0), (2, 0)), ((1, 1),)))
# 13 * 13 * 13 moments.
CUBE = (((DO,) * 12),) * 3
CALLS = (how_many, moments_in)


def runs_and_lots(seed, many=4):
    rng = random.Random(seed)
    for run in TINY:
        for lot in all_lots(run):
            yield run, lot, slice_by_definition(run, lot)
    for run in RUNS:
        for lot, told in lots_of(rng, run, many):
            yield run, lot, told


def all_within(run, lot):
    """Of all moments of the run those in the lot."""
    return tuple([moment for moment in all_moments(run, most=MOST_EVER) if lies_in(lot, moment)])


class Counted(unittest.TestCase):

    def test_by_their_moments(self):
        for run, lot, told in runs_and_lots(192):
            moments = sorted(lot)
            self.assertEqual(len(lot), how_many(run, told))
            self.assertEqual(tuple(moments), moments_in(run, told))
            for number, moment in enumerate(moments):
                self.assertEqual(moment, moment_at(run, told, number))
                self.assertEqual(number, number_of(run, told, moment))
                self.assertIs(int, type(number_of(run, told, moment)))

    def test_none(self):
        for run in RUNS + list(LARGE):
            self.assertEqual(0, how_many(run, None))
            self.assertEqual((), moments_in(run, None, most=1))
            for number in (0, 1, 10 ** 39):
                error = raised(moment_at, run, None, number)
                self.assertIs(NoNumber, type(error))
                self.assertEqual(number, error.number)
            self.assertIs(NoMoment, type(raised(number_of, run, None, (0,) * len(run))))

    def test_own(self):
        for run in RUNS:
            self.assertEqual(all_moments(run), moments_in(run, own_slice(run)))
        self.assertEqual(1, how_many(EMPTY, own_slice(EMPTY)))
        self.assertEqual(((0, 0, 0),), moments_in(HANDS_WITHOUT_DEEDS, own_slice(HANDS_WITHOUT_DEEDS), most=1))

    def test_first_and_last_and_beyond(self):
        for run, lot, told in runs_and_lots(193, 1):
            if lot:
                self.assertEqual(min(lot), moment_at(run, told, 0))
                self.assertEqual(max(lot), moment_at(run, told, len(lot) - 1))
            for number in (len(lot), len(lot) + 1, 10 ** 40 - 1):
                error = raised(moment_at, run, told, number, most=max(1, len(lot)))
                self.assertIs(NoNumber, type(error))
                self.assertIs(number, error.number)

    def test_moments_of_no_lot(self):
        for run, lot, told in runs_and_lots(194, 1):
            for moment in samples.moments_by_definition(run):
                if moment not in lot:
                    self.assertIs(NoMoment, type(raised(number_of, run, told, moment)))

    def test_counts_by_figures(self):
        """Of a run without letters the number's figures are the counts."""
        run = (((DO,) * 9),) * 3
        for number in (0, 7, 10, 99, 123, 505, 990, 999):
            moment = tuple(map(int, f"{number:03d}"))
            self.assertEqual(moment, moment_at(run, own_slice(run), number))
            self.assertEqual(number, number_of(run, own_slice(run), moment))
        self.assertEqual(1000, how_many(run, own_slice(run)))

    def test_2197_moments(self):
        own = own_slice(CUBE)
        for call in CALLS:
            error = raised(call, CUBE, own)
            self.assertIs(TooWide, type(error))
            self.assertEqual(2000, error.most)
        self.assertEqual(2197, how_many(CUBE, own, most=2197))
        self.assertEqual(tuple(itertools.product(range(13), repeat=3)), moments_in(CUBE, own, most=MOST_EVER))
        self.assertEqual((1, 2, 3), moment_at(CUBE, own, 169 + 26 + 3, most=5000))
        self.assertEqual(2196, number_of(CUBE, own, (12, 12, 12), most=2500))
        self.assertEqual(13 * 13, how_many(CUBE, hand_slice(CUBE, 1, (5,))))

    def test_lots_of_few_in_runs_of_many(self):
        for run in LARGE:
            self.assertEqual(1, how_many(run, end_slice(run), most=1))
            self.assertEqual(((0,) * len(run),), moments_in(run, begin_slice(run), most=1))
            stands = stands_of(run, way_by(run))
            lot = spanned(run, stands)
            self.assertEqual(49, how_many(run, lot, most=49))
            self.assertEqual(stands, moments_in(run, lot))
            for number, stand in enumerate(stands):
                self.assertEqual(stand, moment_at(run, lot, number))
                self.assertEqual(number, number_of(run, lot, stand))
            self.assertIs(TooWide, type(raised(how_many, run, own_slice(run))))
        for run in (samples.MANY, samples.LONG):
            self.assertIs(TooWide, type(raised(how_many, run, own_slice(run), most=MOST_EVER)))
        waiting = road_slice(samples.BUSY, 0, 1, "least", 1)
        self.assertEqual(all_within(samples.BUSY, waiting), moments_in(samples.BUSY, waiting, most=MOST_EVER))


class SomeHundredMoments(unittest.TestCase):

    def test_three_hands_of_six(self):
        run = ((DO,) * 6,) * 3
        own = own_slice(run)
        moments = tuple(itertools.product(range(7), repeat=3))
        self.assertEqual(343, how_many(run, own, most=343))
        self.assertEqual(moments, moments_in(run, own))
        for number, moment in enumerate(moments):
            self.assertEqual(moment, moment_at(run, own, number))
            self.assertEqual(number, number_of(run, own, moment))
        self.assertIs(TooWide, type(raised(how_many, run, own, most=342)))

    def test_lots_of_sayings(self):
        rng = random.Random(196)
        widths, knotted, barred = [], 0, 0
        for run in samples.random_runs(197, 60, 20):
            moments = moments_by_definition(run)
            lots = [own_slice(run), spanned(run, tuple(rng.sample(moments, min(len(moments), 6))))]
            lots += [slice_of(run, random_saying(rng, run, 4, 8)) for _ in range(3)]
            for lot in lots:
                found = tuple(sorted([moment for moment in moments if lies_in(lot, moment)]))
                self.assertEqual(len(found), how_many(run, lot, most=5000))
                self.assertEqual(found, moments_in(run, lot, most=5000))
                for number in rng.sample(range(len(found)), min(len(found), 10)):
                    self.assertEqual(found[number], moment_at(run, lot, number, most=5000))
                    self.assertEqual(number, number_of(run, lot, found[number], most=5000))
                widths.append(len(found))
                knotted += len(knots_in(run, lot)) > 0
                barred += len(barred_in(run, lot)) > 0
            self.assertEqual(tuple(moments), all_moments(run, most=5000))
        self.assertGreater(len([width for width in widths if width > 100]), 20)
        self.assertGreater(min(knotted, barred), 20)


class TooManyMoments(unittest.TestCase):

    def check_wide(self, most, call, *arguments):
        error = raised(call, *arguments, most=most)
        self.assertIs(TooWide, type(error), (call.__name__, arguments, most))
        self.assertEqual(most, error.most)

    def test_as_many_as_most_and_one_fewer(self):
        for run, lot, told in runs_and_lots(195, 1):
            if len(lot) > 1:
                most = len(lot)
                moment = min(lot)
                self.assertEqual(most, how_many(run, told, most=most))
                self.assertEqual(most, len(moments_in(run, told, most=most)))
                self.assertEqual(moment, moment_at(run, told, 0, most=most))
                self.assertEqual(0, number_of(run, told, moment, most=most))
                for fewer in (most - 1, 1):
                    self.check_wide(fewer, how_many, run, told)
                    self.check_wide(fewer, moments_in, run, told)
                    self.check_wide(fewer, moment_at, run, told, 0)
                    self.check_wide(fewer, moment_at, run, told, most)
                    self.check_wide(fewer, number_of, run, told, moment)

    def test_most(self):
        self.assertEqual(2000, MOST)
        for most in (5, 6, 2000, 5000):
            self.assertEqual(5, how_many(WRITTEN, OWN, most=most))
        for most in (1, 4):
            self.check_wide(most, how_many, WRITTEN, OWN)
        for most in (0, 5001, True, -1, None, "5", 10 ** 39):
            for call, more in ((how_many, ()), (moments_in, ()), (moment_at, (0,)), (number_of, ((0, 0),))):
                error = raised(call, WRITTEN, OWN, *more, most=most)
                self.assertIs(NoNumber, type(error))
                self.assertIs(most, error.number)
        for call, more in ((how_many, ()), (moments_in, ()), (moment_at, (0,)), (number_of, ((0, 0),))):
            self.assertIs(TypeError, type(raised(call, WRITTEN, OWN, *more, 2000)))

    def test_behind_all(self):
        self.assertIs(NoRun, type(raised(how_many, None, OWN, most=1)))
        self.assertIs(NoSlice, type(raised(moments_in, WRITTEN, (), most=1)))
        self.assertIs(NoNumber, type(raised(moment_at, WRITTEN, OWN, -1, most=1)))
        self.assertIs(NoMoment, type(raised(number_of, WRITTEN, OWN, (0, 1), most=1)))
        self.assertIs(NoMoment, type(raised(number_of, WRITTEN, end_slice(WRITTEN), (0, 0), most=0)))
        error = raised(moment_at, WRITTEN, OWN, -1, most=0)
        self.assertEqual(-1, error.number)
        error = raised(moment_at, WRITTEN, OWN, 99, most=0)
        self.assertEqual(0, error.number)
        self.assertIs(TooWide, type(raised(moment_at, WRITTEN, OWN, 99, most=4)))
        self.assertIs(NoNumber, type(raised(moment_at, WRITTEN, OWN, 99, most=5)))


class Refusals(unittest.TestCase):

    def test_each_argument(self):
        arguments = [("run", "run", WRITTEN), ("lot", "lot", OWN), ("most", "most", 9)]
        for call in CALLS:
            check_call(self, call, arguments)
            check_places(self, call, arguments[:2])
        check_call(self, moment_at, arguments[:2] + [("number", "number", 1), ("most", "most", 5)])
        check_places(self, moment_at, arguments[:2] + [("number", "number", 1)])
        check_call(self, number_of, arguments[:2] + [("moment", "moment", (1, 0)), ("most", "most", 5)])
        check_places(self, number_of, arguments[:2] + [("moment", "moment", (1, 0))])
        self.assertIs(NoSlice, type(raised(how_many, WRITTEN, own_slice(ASKED))))

    def test_numbers(self):
        for bad in (True, False, None, -1, -10 ** 39, "0", "", (0,), [0], {}):
            error = raised(moment_at, WRITTEN, OWN, bad)
            self.assertIs(NoNumber, type(error))
            self.assertIs(bad, error.number)

    def test_asked_again(self):
        lot = hand_slice(FREE, 0, (0, 2))
        before = repr((FREE, lot))
        for call in CALLS:
            self.assertEqual(call(FREE, lot), call(most=2000, lot=lot, run=FREE))
        self.assertEqual(moment_at(FREE, lot, 3), moment_at(number=3, most=50, lot=lot, run=FREE))
        self.assertEqual(number_of(FREE, lot, (2, 0, 0)), number_of(moment=(2, 0, 0), lot=lot, run=FREE))
        self.assertEqual(before, repr((FREE, lot)))


if __name__ == "__main__":
    unittest.main()

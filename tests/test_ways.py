"""Hands that can go on or back, ways, their stands, all moments."""

import itertools
import random
import unittest

from mighthave.errors import NoMoments, NoNumber, NoRun, NoWay, TooWide
from mighthave.run import ways
from mighthave.run.ways import all_moments, can_go_back, can_go_on, is_way, stands_of, way_by
from tests import samples
from tests.refusals import NO_WAYS, check_anything, check_call, check_places, raised
from tests.samples import ASKED, CROSSED, DO, EMPTY, FREE, HANDS_WITHOUT_DEEDS, RELAY, WRITTEN

RUNS = list(samples.SMALL) + samples.random_runs(21, 40, 9)


class GoingOnAndBack(unittest.TestCase):

    def test_begin_and_end(self):
        self.assertEqual((0, 1, 2), can_go_on(FREE, (0, 0, 0)))
        self.assertEqual((), can_go_back(FREE, (0, 0, 0)))
        self.assertEqual((), can_go_on(FREE, (2, 1, 3)))
        self.assertEqual((0, 1, 2), can_go_back(FREE, (2, 1, 3)))
        self.assertEqual((), can_go_on(EMPTY, (0,)))
        self.assertEqual((), can_go_back(EMPTY, (0,)))

    def test_a_hand_that_waits_for_a_letter(self):
        self.assertEqual((0,), can_go_on(WRITTEN, (0, 0)))
        self.assertEqual((0, 1), can_go_on(WRITTEN, (1, 0)))
        self.assertEqual((1,), can_go_on(WRITTEN, (2, 0)))
        self.assertEqual((0,), can_go_on(WRITTEN, (1, 1)))

    def test_a_hand_whose_letter_was_taken(self):
        self.assertEqual((0,), can_go_back(WRITTEN, (1, 0)))
        self.assertEqual((1,), can_go_back(WRITTEN, (1, 1)))
        self.assertEqual((0, 1), can_go_back(WRITTEN, (2, 1)))

    def test_by_definition(self):
        for run in RUNS:
            found = samples.moments_by_definition(run)
            for moment in found:
                on = tuple([h for h in range(len(run)) if changed(moment, h, 1) in found])
                back = tuple([h for h in range(len(run)) if changed(moment, h, -1) in found])
                self.assertEqual(on, can_go_on(run, moment))
                self.assertEqual(back, can_go_back(run, moment))

    def test_refusals(self):
        arguments = [("run", "run", WRITTEN), ("moment", "moment", (1, 0))]
        for call in (can_go_on, can_go_back):
            check_call(self, call, arguments)
            check_places(self, call, arguments)


def changed(moment, hand, by):
    return tuple([count + by if each == hand else count for each, count in enumerate(moment)])


class Ways(unittest.TestCase):

    def test_plain(self):
        for way in ((0, 0, 1), (0, 1, 0)):
            self.assertIs(True, is_way(WRITTEN, way))
        for thing in NO_WAYS:
            self.assertIs(False, is_way(WRITTEN, thing), thing)
        check_anything(self, is_way, WRITTEN)
        check_anything(self, is_way, EMPTY)

    def test_without_deeds(self):
        for run in (EMPTY, HANDS_WITHOUT_DEEDS):
            self.assertIs(True, is_way(run, ()))
            self.assertIs(False, is_way(run, (0,)))
            self.assertIs(False, is_way(run, []))
            self.assertIs(False, is_way(run, None))
            self.assertEqual(((0,) * len(run),), stands_of(run, ()))
            self.assertEqual((), way_by(run))
            self.assertEqual(((0,) * len(run),), all_moments(run))

    def test_just_those_of_the_definition(self):
        for run in (WRITTEN, ASKED, FREE, samples.ALONE):
            found = samples.ways_by_definition(run)
            many = len(samples.places(run))
            for row in itertools.product(range(len(run)), repeat=many):
                self.assertIs(row in found, is_way(run, row), row)
            for way in sorted(found)[:50]:
                self.assertIs(False, is_way(run, way[:-1]))
                self.assertIs(False, is_way(run, way + (0,)))
                self.assertIs(False, is_way(run, list(way)))

    def test_one_hand_otherwise(self):
        for run in samples.random_runs(22, 40, 12):
            way = way_by(run)
            for at in range(len(way)):
                for hand in [*range(-1, len(run) + 1), True, None]:
                    row = way[:at] + (hand,) + way[at + 1:]
                    told = type(hand) is int and 0 <= hand < len(run) and samples.is_way_by_definition(run, row)
                    self.assertIs(told, is_way(run, row), row)

    def test_refusals(self):
        for bad in (None, (), [WRITTEN], ((DO,),) * 7):
            self.assertIs(NoRun, type(raised(is_way, bad, (0,))))
            self.assertIs(NoRun, type(raised(is_way, thing=None, run=bad)))
        check_places(self, is_way, [("run", "run", WRITTEN), ("thing", "", (0, 1, 0))])


class Stands(unittest.TestCase):

    def test_plain(self):
        self.assertEqual(((0, 0), (1, 0), (1, 1), (2, 1)), stands_of(WRITTEN, (0, 1, 0)))
        self.assertEqual(((0, 0), (1, 0), (2, 0), (2, 1)), stands_of(WRITTEN, (0, 0, 1)))

    def test_by_definition(self):
        for run in (WRITTEN, ASKED, FREE, samples.ALONE):
            for way in samples.ways_by_definition(run):
                stands = stands_of(run, way)
                self.assertEqual(samples.stands_by_definition(run, way), stands)
                self.assertTrue(all(samples.is_moment_by_definition(run, stand) for stand in stands))

    def test_long(self):
        way = (0, 1, 2, 3, 4, 5) * 8
        stands = stands_of(samples.MANY, way)
        self.assertEqual(49, len(stands))
        self.assertEqual((8,) * 6, stands[-1])
        self.assertEqual((1, 1, 1, 0, 0, 0), stands[3])

    def test_refusals(self):
        arguments = [("run", "run", WRITTEN), ("way", "way", (0, 0, 1))]
        check_call(self, stands_of, arguments)
        check_places(self, stands_of, arguments)
        self.assertIs(NoWay, type(raised(stands_of, WRITTEN, (1, 0, 0))))


class WayBy(unittest.TestCase):

    def check(self, run, moments):
        way = way_by(run, moments=moments)
        self.assertTrue(samples.is_way_by_definition(run, way))
        self.assertTrue(set(moments) <= set(samples.stands_by_definition(run, way)))

    def test_no_moments(self):
        for run in RUNS:
            self.check(run, ())
            self.assertEqual(way_by(run), way_by(run, moments=()))

    def test_one_moment(self):
        for run in RUNS:
            for moment in samples.moments_by_definition(run):
                self.check(run, (moment,))

    def test_two_moments(self):
        for run in (WRITTEN, ASKED, CROSSED, RELAY, FREE):
            found = samples.moments_by_definition(run)
            for one, other in itertools.product(found, repeat=2):
                if samples.below(one, other):
                    self.check(run, (one, other))
                else:
                    self.assertIs(NoMoments, type(raised(way_by, run, moments=(one, other))))

    def test_several_moments(self):
        rng = random.Random(23)
        for run in samples.random_runs(24, 60, 12):
            stands = stands_of(run, way_by(run))
            row = tuple(sorted(rng.choices(stands, k=5), key=sum))
            self.check(run, row)
        self.check(FREE, ((0, 0, 0), (1, 0, 2), (1, 0, 2), (1, 1, 2), (2, 1, 3), (2, 1, 3)))

    def test_out_of_order(self):
        for row in (((1, 0, 2), (1, 0, 1)), ((1, 0, 0), (0, 1, 0)), ((0, 0, 0), (2, 0, 0), (1, 1, 1)),
                    ((0, 0, 0), (2, 0, 0), (1, 0, 0), (2, 1, 3))):
            self.assertIs(NoMoments, type(raised(way_by, FREE, moments=row)))

    def test_long(self):
        self.check(samples.MANY, ((8, 0, 0, 0, 0, 0), (8, 8, 0, 0, 0, 8)))
        self.check(samples.BUSY, ((0, 0, 12, 0), (11, 11, 12, 0), (11, 12, 12, 5)))

    def test_refusals(self):
        arguments = [("run", "run", WRITTEN), ("moments", "moments", ((1, 0), (1, 1)))]
        check_call(self, way_by, arguments)
        self.assertIs(TypeError, type(raised(way_by, WRITTEN, ())))


class AllMoments(unittest.TestCase):

    def test_rising_and_all(self):
        for run in RUNS:
            self.assertEqual(tuple(sorted(samples.moments_by_definition(run))), all_moments(run))
        self.assertEqual(((0, 0), (1, 0), (1, 1), (2, 0), (2, 1)), all_moments(WRITTEN))

    def test_bounds(self):
        self.assertEqual((2000, 5000), (ways.MOST, ways.MOST_EVER))

    def test_as_many_as_most_and_one_more(self):
        for run in RUNS:
            many = len(samples.moments_by_definition(run))
            self.assertEqual(many, len(all_moments(run, most=many)))
            if many > 1:
                error = raised(all_moments, run, most=many - 1)
                self.assertIs(TooWide, type(error))
                self.assertEqual(many - 1, error.most)

    def test_most_left_out(self):
        just = ((DO,) * 9,) * 2
        self.assertEqual(100, len(all_moments(just)))
        within = ((DO,) * 9, (DO,) * 9, (DO,) * 9, (DO,))
        self.assertEqual(2000, len(all_moments(within)))
        beyond = ((DO,) * 12, (DO,) * 12, (DO,) * 11)
        error = raised(all_moments, beyond)
        self.assertIs(TooWide, type(error))
        self.assertEqual(2000, error.most)
        self.assertEqual(13 * 13 * 12, len(all_moments(beyond, most=13 * 13 * 12)))
        self.assertEqual(13 * 13 * 12, len(all_moments(beyond, most=5000)))

    def test_least_and_greatest_most(self):
        self.assertEqual(((0,),), all_moments(EMPTY, most=1))
        self.assertEqual(1, raised(all_moments, WRITTEN, most=1).most)
        full = ((DO,) * 9, (DO,) * 9, (DO,) * 9, (DO,) * 4)
        self.assertEqual(5000, len(all_moments(full, most=5000)))
        self.assertEqual(4999, raised(all_moments, full, most=4999).most)
        for run in (samples.MANY, samples.LONG):
            for most in (1, 2000, 5000):
                error = raised(all_moments, run, most=most)
                self.assertIs(TooWide, type(error))
                self.assertEqual(most, error.most)

    def test_of_48_deeds(self):
        run = samples.BUSY
        told = all_moments(run[:2] + ((), run[3]), most=5000)
        self.assertEqual(25 * 13, len(told))

    def test_refusals(self):
        arguments = [("run", "run", WRITTEN), ("most", "most", 2000)]
        check_call(self, all_moments, arguments)
        self.assertIs(TypeError, type(raised(all_moments, WRITTEN, 2000)))

    def test_too_wide_is_behind_all(self):
        for most in (0, 5001, True, -1, None, "9", (5,)):
            error = raised(all_moments, samples.MANY, most=most)
            self.assertIs(NoNumber, type(error))
            self.assertIs(most, error.number)
        self.assertIs(NoRun, type(raised(all_moments, samples.MANY + ((),), most=1)))


if __name__ == "__main__":
    unittest.main()

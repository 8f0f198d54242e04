"""From here on: till and its papers, each on and its denials."""

import itertools
import unittest

from mighthave.errors import NoMoment, NoSlice
from mighthave.lots.ahead import each_on, on_denial, shows_till, till, till_paper
from mighthave.lots.plain import begin_slice, end_slice, hand_slice, road_slice
from mighthave.lots.slices import is_in, knots_in, own_slice, spanned
from mighthave.run.ways import stands_of, way_by
from tests import samples
from tests.definitions import slice_by_definition
from tests.papers import ByAllMoments, PapersShown, PapersTold, check_denials, drawn, is_above, pairs_of_lots
from tests.papers import tiny_pairs
from tests.refusals import check_anything, check_call, check_places, raised
from tests.samples import ASKED, DO, EMPTY, FREE, ODD, RELAY, WRITTEN
from tests.walked import all_above, come_to, is_till_paper, till_by_walking

RUNS = list(samples.SMALL) + samples.random_runs(111, 20, 8)
OWN = ((0, 0), (((1, 0), (2, 0)), ((1, 1),)))
END = ((2, 1), (((2, 1), (2, 1)), ((2, 1),)))
# BEGIN, both hands' first deeds together, then both hands' second ones.
STAIRS = ((DO, DO), (DO, DO), (DO,))
STEPS = spanned(STAIRS, ((0, 0, 0), (1, 1, 0), (2, 2, 0), (2, 2, 1)))


class Till(ByAllMoments, unittest.TestCase):

    call, walked, runs, seed = staticmethod(till), staticmethod(till_by_walking), RUNS, 112

    def test_knots(self):
        self.assertEqual((((0, 0), (1, 0)), ((0, 1), (1, 1))), knots_in(STAIRS, STEPS))
        last = spanned(STAIRS, ((2, 2, 0), (2, 2, 1)))
        self.assertEqual(last, till(STAIRS, STEPS, end_slice(STAIRS)))
        self.assertEqual(spanned(STAIRS, ((1, 1, 0),)), till(STAIRS, STEPS, spanned(STAIRS, ((1, 1, 0),))))
        self.assertEqual(own_slice(STAIRS), till(STAIRS, own_slice(STAIRS), STEPS))

    def test_nothing_together(self):
        for run in RUNS:
            own = own_slice(run)
            for lot in (None, own, begin_slice(run)):
                self.assertIsNone(till(run, lot, None))
                self.assertIsNone(till(run, None, lot))
            self.assertEqual(own, till(run, own, end_slice(run)))
            self.assertEqual(begin_slice(run), till(run, own, begin_slice(run)))
            self.assertEqual(own, till(run, own, own))
        self.assertIsNone(till(WRITTEN, hand_slice(WRITTEN, 0, (0, 1)), end_slice(WRITTEN)))

    def test_refusals(self):
        arguments = [("run", "run", WRITTEN), ("one", "lot", OWN), ("other", "lot", END)]
        check_call(self, till, arguments)
        check_places(self, till, arguments)
        self.assertIs(NoSlice, type(raised(till, WRITTEN, None, own_slice(ASKED))))


class TillPaper(PapersTold, unittest.TestCase):

    tell, shows, judge = staticmethod(till_paper), staticmethod(shows_till), staticmethod(is_till_paper)
    walked, runs, seed = staticmethod(till_by_walking), RUNS, 114

    def test_just_the_first_that_is_so(self):
        self.assertEqual(("out",), till_paper(STAIRS, STEPS, None, (0, 1, 0)))
        self.assertEqual(("beyond",), till_paper(STAIRS, STEPS, begin_slice(STAIRS), (1, 1, 0)))
        self.assertEqual(("knot", ((0, 1), (1, 1))), till_paper(STAIRS, STEPS, end_slice(STAIRS), (1, 1, 0)))
        self.assertEqual(("way", (2,)), till_paper(STAIRS, STEPS, end_slice(STAIRS), (2, 2, 0)))
        self.assertEqual(("way", ()), till_paper(STAIRS, STEPS, STEPS, (0, 0, 0)))
        self.assertEqual(("out",), till_paper(WRITTEN, None, None, (0, 0)))
        self.assertEqual(("out",), till_paper(WRITTEN, None, OWN, (2, 1)))
        self.assertEqual(("beyond",), till_paper(WRITTEN, OWN, None, (2, 1)))
        self.assertEqual(("way", ()), till_paper(EMPTY, own_slice(EMPTY), own_slice(EMPTY), (0,)))
        self.assertIn(till_paper(STAIRS, STEPS, end_slice(STAIRS), (0, 0, 0)),
                      (("knot", ((0, 0), (1, 0))), ("knot", ((0, 1), (1, 1)))))

    def test_refusals(self):
        arguments = [("run", "run", WRITTEN), ("one", "lot", OWN), ("other", "lot", END), ("moment", "moment", (1, 0))]
        check_call(self, till_paper, arguments)
        check_places(self, till_paper, arguments)
        self.assertIs(NoMoment, type(raised(till_paper, WRITTEN, None, None, (0, 1))))


class ShowsTill(PapersShown, unittest.TestCase):

    tell, shows, judge = staticmethod(till_paper), staticmethod(shows_till), staticmethod(is_till_paper)
    runs, seed = RUNS, 116

    def test_any_way_that_fits(self):
        own = own_slice(RELAY)
        for way in (way_by(RELAY), way_by(RELAY, moments=((0, 1, 1),))):
            self.assertIs(True, shows_till(RELAY, own, end_slice(RELAY), (0, 0, 0), ("way", way)))
            self.assertIs(False, shows_till(RELAY, own, end_slice(RELAY), (0, 0, 0), ("way", way[:-1])))
            self.assertIs(True, shows_till(RELAY, own, own, (0, 0, 0), ("way", way[:-1])))
            self.assertIs(False, shows_till(RELAY, own, own, (0, 0, 0), ("way", way + (0,))))
            self.assertIs(False, shows_till(RELAY, own, own, (0, 0, 0), ("way", list(way))))
            self.assertIs(False, shows_till(RELAY, own, own, (0, 0, 0), ["way", way]))

    def test_knots_otherwise(self):
        well = ((0, 0), (1, 0))
        end = end_slice(STAIRS)
        self.assertIs(True, shows_till(STAIRS, STEPS, end, (0, 0, 0), ("knot", well)))
        self.assertIs(True, shows_till(STAIRS, STEPS, end, (0, 0, 0), ("knot", ((0, 1), (1, 1)))))
        self.assertIs(False, shows_till(STAIRS, STEPS, end, (1, 1, 0), ("knot", well)))
        for deeds in (well[::-1], well[:1], well[1:], well + well[1:], ((0, 0), (0, 0)), ((0, 0), (1, 1)), (), well * 2,
                      ((0, 1), (1, 1), (2, 0)), ((0, False), (1, 0)), ((False, 0), (True, 0)), list(well),
                      ([0, 0], (1, 0)), ((0, 0), [1, 0]), ((0, 0, 0), (1, 0)), ((0, 0), (1, 0), None),
                      ((0, 0), (9, 9))):
            self.assertIs(False, shows_till(STAIRS, STEPS, end, (0, 0, 0), ("knot", deeds)), deeds)
        for thing in (("way", ()), ("way", (0, 1)), ("out",), ("beyond",), ("knot",), ("knot", well, ()), (well,),
                      ["knot", well], ("Knot", well), "knot", None):
            self.assertIs(False, shows_till(STAIRS, STEPS, end, (0, 0, 0), thing), thing)
        # Up to the moment of both that is asked for, the other knot isn't in the way.
        middle = spanned(STAIRS, ((1, 1, 0),))
        self.assertIs(True, shows_till(STAIRS, STEPS, middle, (0, 0, 0), ("knot", well)))
        self.assertIs(False, shows_till(STAIRS, STEPS, middle, (0, 0, 0), ("knot", ((0, 1), (1, 1)))))

    def test_of_anything(self):
        for one, other in ((OWN, END), (OWN, None), (None, OWN)):
            check_anything(self, shows_till, WRITTEN, one, other, (1, 0))
        check_anything(self, shows_till, STAIRS, STEPS, end_slice(STAIRS), (0, 0, 0))
        for thing in ODD:
            for paper in (("knot", thing), ("way", thing), (thing, ()), (thing,), ("knot", (thing, thing)),
                          ("way", (thing,))):
                self.assertIs(False, shows_till(STAIRS, STEPS, end_slice(STAIRS), (0, 0, 0), paper), paper)
        self.assertIs(True, shows_till(thing=("way", (0, 1)), moment=(1, 0), other=END, one=OWN, run=WRITTEN))
        arguments = [("run", "run", WRITTEN), ("one", "lot", OWN), ("other", "lot", END), ("moment", "moment", (1, 0))]
        check_call(self, lambda run, one, other, moment: shows_till(run, one, other, moment, {}), arguments)


class EachOn(unittest.TestCase):

    def test_by_all_moments(self):
        for run, (lot, told), _ in itertools.chain(tiny_pairs(119, 300), pairs_of_lots(120, RUNS, 3, 60)):
            self.assertEqual(slice_by_definition(run, all_above(run, lot)), each_on(run, told), (run, told))

    def test_empty_all_and_from_one_moment_on(self):
        rng = drawn(121)
        for run in RUNS:
            own = own_slice(run)
            self.assertIsNone(each_on(run, None))
            self.assertEqual(own, each_on(run, own))
            self.assertEqual(end_slice(run), each_on(run, end_slice(run)))
            moments = samples.moments_by_definition(run)
            low = rng.choice(moments)
            above = slice_by_definition(run, {each for each in moments if samples.below(low, each)})
            self.assertEqual(above, each_on(run, above))
        self.assertIsNone(each_on(WRITTEN, begin_slice(WRITTEN)))
        self.assertIsNone(each_on(FREE, hand_slice(FREE, 2, (0, 1, 2))))
        self.assertEqual((2, 0, 0), each_on(FREE, hand_slice(FREE, 0, (0, 2)))[0])

    def test_refusals(self):
        check_call(self, each_on, [("run", "run", WRITTEN), ("lot", "lot", OWN)])
        check_places(self, each_on, [("run", "run", WRITTEN), ("lot", "lot", OWN)])


class OnDenial(unittest.TestCase):

    def test_by_all_moments(self):
        for run, one, _ in itertools.chain(tiny_pairs(122, 120), pairs_of_lots(123, RUNS, 1, 25)):
            check_denials(self, run, one, on_denial, is_above)

    def test_begin_end_none_own(self):
        for run in RUNS:
            begin, end = (0,) * len(run), tuple([len(row) for row in run])
            for moment in (begin, end):
                self.assertIsNone(on_denial(run, own_slice(run), moment))
                self.assertTrue(samples.below(moment, on_denial(run, None, moment)))
            self.assertIsNone(on_denial(run, end_slice(run), end))
        self.assertEqual((2, 1), on_denial(WRITTEN, begin_slice(WRITTEN), (2, 1)))

    def test_refusals(self):
        arguments = [("run", "run", WRITTEN), ("lot", "lot", OWN), ("moment", "moment", (1, 0))]
        check_call(self, on_denial, arguments)
        check_places(self, on_denial, arguments)


class SixHandsAnd48Deeds(unittest.TestCase):

    def test_ways(self):
        for run in (samples.MANY, samples.LONG, samples.BUSY):
            own, end = own_slice(run), end_slice(run)
            self.assertEqual(own, till(run, own, end))
            stands = stands_of(run, way_by(run))
            keeps = spanned(run, stands)
            goal = spanned(run, stands[20:30])
            self.assertEqual(spanned(run, stands[:30]), till(run, keeps, goal))
            for moment in stands:
                paper = till_paper(run, keeps, goal, moment)
                self.assertEqual("way" if moment in stands[:30] else "beyond", paper[0])
                self.assertIs(True, shows_till(run, keeps, goal, moment, paper))
                if paper[0] == "way":
                    self.assertIn(come_to(run, set(stands), moment, paper[1]), stands[20:30])
            for moment in stands:
                self.assertIs(on_denial(run, keeps, moment) is None, is_in(run, each_on(run, keeps), moment))
            self.assertIsNone(on_denial(run, keeps, stands[-1]))
            denial = on_denial(run, goal, stands[22])
            self.assertIs(False, is_in(run, goal, denial))

    def test_knots(self):
        for run in (samples.MANY, samples.LONG, samples.BUSY):
            stands = stands_of(run, way_by(run))
            keeps = spanned(run, stands[:10] + stands[15:])
            self.assertEqual(spanned(run, stands[15:]), till(run, keeps, end_slice(run)))
            for moment in stands[:10]:
                paper = till_paper(run, keeps, end_slice(run), moment)
                self.assertEqual(("knot", knots_in(run, keeps)[0]), paper)
                self.assertIs(True, shows_till(run, keeps, end_slice(run), moment, paper))
            self.assertEqual(("out",), till_paper(run, keeps, end_slice(run), stands[12]))

    def test_letters_under_way(self):
        run = samples.BUSY
        waiting = road_slice(run, 0, 1, "most", 0)
        told = till(run, waiting, hand_slice(run, 1, (2,)))
        self.assertIs(True, is_in(run, told, (1, 1, 7, 2)))
        self.assertIs(False, is_in(run, told, (1, 0, 7, 2)))
        self.assertIsNotNone(each_on(run, waiting))


class Alike(unittest.TestCase):

    def test_asked_again(self):
        before = repr((STAIRS, STEPS))
        for _ in range(2):
            self.assertEqual(till_paper(STAIRS, STEPS, STEPS, (0, 0, 0)), till_paper(
                moment=(0, 0, 0), other=STEPS, one=STEPS, run=STAIRS))
            self.assertEqual(on_denial(STAIRS, STEPS, (0, 0, 0)), on_denial(moment=(0, 0, 0), lot=STEPS, run=STAIRS))
            self.assertEqual(each_on(STAIRS, STEPS), each_on(lot=STEPS, run=STAIRS))
        self.assertEqual(before, repr((STAIRS, STEPS)))


if __name__ == "__main__":
    unittest.main()

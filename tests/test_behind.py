"""Up to here: since and its papers, each back and its denials."""

import itertools
import unittest

from mighthave.errors import NoMoment, NoSlice
from mighthave.lots.behind import back_denial, each_back, shows_since, since, since_paper
from mighthave.lots.plain import begin_slice, end_slice, hand_slice, road_slice
from mighthave.lots.slices import is_in, knots_in, own_slice, spanned
from mighthave.run.ways import stands_of, way_by
from tests import samples
from tests.definitions import slice_by_definition
from tests.papers import ByAllMoments, PapersShown, PapersTold, check_denials, drawn, is_beneath, pairs_of_lots
from tests.papers import tiny_pairs
from tests.refusals import check_anything, check_call, check_places, raised
from tests.samples import ASKED, DO, EMPTY, FREE, ODD, RELAY, WRITTEN
from tests.walked import all_below, come_to, is_since_paper, since_by_walking

RUNS = list(samples.SMALL) + samples.random_runs(131, 20, 8)
OWN = ((0, 0), (((1, 0), (2, 0)), ((1, 1),)))
END = ((2, 1), (((2, 1), (2, 1)), ((2, 1),)))
BEGIN = ((0, 0), ((None, None), (None,)))
# BEGIN, the third hand's one, both other hands' first deeds together, then both hands' second ones.
STAIRS = ((DO, DO), (DO, DO), (DO,))
STEPS = spanned(STAIRS, ((0, 0, 0), (0, 0, 1), (1, 1, 1), (2, 2, 1)))


class Since(ByAllMoments, unittest.TestCase):

    call, walked, runs, seed = staticmethod(since), staticmethod(since_by_walking), RUNS, 132

    def test_knots(self):
        self.assertEqual((((0, 0), (1, 0)), ((0, 1), (1, 1))), knots_in(STAIRS, STEPS))
        self.assertEqual(spanned(STAIRS, ((0, 0, 0), (0, 0, 1))), since(STAIRS, STEPS, begin_slice(STAIRS)))
        self.assertEqual(spanned(STAIRS, ((1, 1, 1),)), since(STAIRS, STEPS, spanned(STAIRS, ((1, 1, 1),))))
        self.assertEqual(end_slice(STAIRS), since(STAIRS, STEPS, end_slice(STAIRS)))
        self.assertEqual(own_slice(STAIRS), since(STAIRS, own_slice(STAIRS), STEPS))
        # Each knot must be had from some moment of both on: one leads to the other.
        both = spanned(STAIRS, ((0, 0, 0), (2, 2, 1)))
        self.assertEqual(spanned(STAIRS, ((0, 0, 0), (0, 0, 1), (2, 2, 1))), since(STAIRS, STEPS, both))

    def test_nothing_together(self):
        for run in RUNS:
            own = own_slice(run)
            for lot in (None, own, begin_slice(run)):
                self.assertIsNone(since(run, lot, None))
                self.assertIsNone(since(run, None, lot))
            self.assertEqual(own, since(run, own, begin_slice(run)))
            self.assertEqual(end_slice(run), since(run, own, end_slice(run)))
            self.assertEqual(own, since(run, own, own))
        self.assertIsNone(since(WRITTEN, hand_slice(WRITTEN, 0, (1, 2)), begin_slice(WRITTEN)))

    def test_refusals(self):
        arguments = [("run", "run", WRITTEN), ("one", "lot", OWN), ("other", "lot", BEGIN)]
        check_call(self, since, arguments)
        check_places(self, since, arguments)
        self.assertIs(NoSlice, type(raised(since, WRITTEN, None, own_slice(ASKED))))


class SincePaper(PapersTold, unittest.TestCase):

    tell, shows, judge = staticmethod(since_paper), staticmethod(shows_since), staticmethod(is_since_paper)
    walked, runs, seed = staticmethod(since_by_walking), RUNS, 134

    def test_just_the_first_that_is_so(self):
        begin = begin_slice(STAIRS)
        self.assertEqual(("out",), since_paper(STAIRS, STEPS, None, (0, 1, 0)))
        self.assertEqual(("beyond",), since_paper(STAIRS, STEPS, end_slice(STAIRS), (1, 1, 1)))
        self.assertEqual(("knot", ((0, 0), (1, 0))), since_paper(STAIRS, STEPS, begin, (1, 1, 1)))
        self.assertEqual(("way", (0, 0, 0), (2,)), since_paper(STAIRS, STEPS, begin, (0, 0, 1)))
        self.assertEqual(("way", (0, 0, 0), ()), since_paper(STAIRS, STEPS, STEPS, (0, 0, 0)))
        self.assertEqual(("out",), since_paper(WRITTEN, None, None, (0, 0)))
        self.assertEqual(("out",), since_paper(WRITTEN, None, OWN, (2, 1)))
        self.assertEqual(("beyond",), since_paper(WRITTEN, OWN, None, (2, 1)))
        self.assertEqual(("way", (0,), ()), since_paper(EMPTY, own_slice(EMPTY), own_slice(EMPTY), (0,)))
        self.assertIn(since_paper(STAIRS, STEPS, begin, (2, 2, 1)),
                      (("knot", ((0, 0), (1, 0))), ("knot", ((0, 1), (1, 1)))))

    def test_refusals(self):
        arguments = [("run", "run", WRITTEN), ("one", "lot", OWN), ("other", "lot", END), ("moment", "moment", (1, 0))]
        check_call(self, since_paper, arguments)
        check_places(self, since_paper, arguments)
        self.assertIs(NoMoment, type(raised(since_paper, WRITTEN, None, None, (0, 1))))


class ShowsSince(PapersShown, unittest.TestCase):

    tell, shows, judge = staticmethod(since_paper), staticmethod(shows_since), staticmethod(is_since_paper)
    runs, seed = RUNS, 136

    def test_any_way_that_fits(self):
        own, begin, end = own_slice(RELAY), (0, 0, 0), (3, 4, 3)
        for way in (way_by(RELAY), way_by(RELAY, moments=((0, 1, 1),))):
            self.assertIs(True, shows_since(RELAY, own, begin_slice(RELAY), end, ("way", begin, way)))
            self.assertIs(False, shows_since(RELAY, own, begin_slice(RELAY), end, ("way", begin, way[:-1])))
            self.assertIs(False, shows_since(RELAY, own, begin_slice(RELAY), end, ("way", begin, way[1:])))
            self.assertIs(False, shows_since(RELAY, own, begin_slice(RELAY), end, ("way", begin, way + (0,))))
            self.assertIs(False, shows_since(RELAY, own, begin_slice(RELAY), end, ("way", begin, list(way))))
            self.assertIs(False, shows_since(RELAY, own, begin_slice(RELAY), end, ("way", list(begin), way)))
            self.assertIs(False, shows_since(RELAY, own, begin_slice(RELAY), end, ["way", begin, way]))
            self.assertIs(False, shows_since(RELAY, own, begin_slice(RELAY), end, ("way", (False, 0, 0), way)))
            for many, stand in enumerate(stands_of(RELAY, way)):
                self.assertIs(many == 0, shows_since(RELAY, own, begin_slice(RELAY), end, ("way", stand, way[many:])))
                self.assertIs(True, shows_since(RELAY, own, own, end, ("way", stand, way[many:])))
                self.assertIs(many == len(way), shows_since(RELAY, own, own, end, ("way", stand, ())))

    def test_knots_otherwise(self):
        well = ((0, 0), (1, 0))
        begin, end = begin_slice(STAIRS), (2, 2, 1)
        self.assertIs(True, shows_since(STAIRS, STEPS, begin, end, ("knot", well)))
        self.assertIs(True, shows_since(STAIRS, STEPS, begin, end, ("knot", ((0, 1), (1, 1)))))
        self.assertIs(False, shows_since(STAIRS, STEPS, begin, (1, 1, 1), ("knot", ((0, 1), (1, 1)))))
        for deeds in (well[::-1], well[:1], well[1:], well + well[1:], ((0, 0), (0, 0)), ((0, 0), (1, 1)), (), well * 2,
                      ((0, 0), (1, 0), (2, 0)), ((0, False), (1, 0)), ((False, 0), (True, 0)), list(well),
                      ([0, 0], (1, 0)), ((0, 0), [1, 0]), ((0, 0, 0), (1, 0)), ((0, 0), (1, 0), None),
                      ((0, 0), (9, 9))):
            self.assertIs(False, shows_since(STAIRS, STEPS, begin, end, ("knot", deeds)), deeds)
        for thing in (("way", (0, 0, 0), ()), ("way", (0, 0, 0), (2, 0, 1)), ("out",), ("beyond",), ("knot",), (well,),
                      ("knot", well, ()), ["knot", well], ("Knot", well), "knot", None, ("knot", (0, 0, 0), well)):
            self.assertIs(False, shows_since(STAIRS, STEPS, begin, end, thing), thing)
        middle = spanned(STAIRS, ((1, 1, 1),))
        self.assertIs(True, shows_since(STAIRS, STEPS, middle, end, ("knot", ((0, 1), (1, 1)))))
        self.assertIs(False, shows_since(STAIRS, STEPS, middle, end, ("knot", well)))

    def test_of_anything(self):
        for one, other in ((OWN, END), (OWN, None), (None, OWN), (OWN, OWN)):
            check_anything(self, shows_since, WRITTEN, one, other, (1, 0))
            check_anything(self, shows_since, WRITTEN, one, other, (2, 1))
        check_anything(self, shows_since, STAIRS, STEPS, begin_slice(STAIRS), (2, 2, 1))
        for thing in ODD:
            for paper in (("knot", thing), ("way", thing, ()), (thing,), ("way", (0, 0, 0), thing),
                          ("knot", (thing, thing)), (thing, (0, 0, 0), ()), ("way", (0, 0, 0), (thing,))):
                self.assertIs(False, shows_since(STAIRS, STEPS, begin_slice(STAIRS), (2, 2, 1), paper), paper)
        self.assertIs(True, shows_since(thing=("way", (0, 0), (0,)), moment=(1, 0), other=BEGIN, one=OWN, run=WRITTEN))
        arguments = [("run", "run", WRITTEN), ("one", "lot", OWN), ("other", "lot", END), ("moment", "moment", (1, 0))]
        check_call(self, lambda run, one, other, moment: shows_since(run, one, other, moment, {}), arguments)


class EachBack(unittest.TestCase):

    def test_by_all_moments(self):
        for run, (lot, told), _ in itertools.chain(tiny_pairs(139, 300), pairs_of_lots(140, RUNS, 3, 60)):
            self.assertEqual(slice_by_definition(run, all_below(run, lot)), each_back(run, told), (run, told))

    def test_empty_all_and_up_to_one_moment(self):
        rng = drawn(141)
        for run in RUNS:
            own = own_slice(run)
            self.assertIsNone(each_back(run, None))
            self.assertEqual(own, each_back(run, own))
            self.assertEqual(begin_slice(run), each_back(run, begin_slice(run)))
            moments = samples.moments_by_definition(run)
            high = rng.choice(moments)
            below = slice_by_definition(run, {each for each in moments if samples.below(each, high)})
            self.assertEqual(below, each_back(run, below))
        self.assertIsNone(each_back(WRITTEN, END))
        self.assertIsNone(each_back(FREE, hand_slice(FREE, 2, (1, 2, 3))))
        self.assertEqual(hand_slice(FREE, 2, (0, 1)), each_back(FREE, hand_slice(FREE, 2, (0, 1, 3))))

    def test_refusals(self):
        check_call(self, each_back, [("run", "run", WRITTEN), ("lot", "lot", OWN)])
        check_places(self, each_back, [("run", "run", WRITTEN), ("lot", "lot", OWN)])


class BackDenial(unittest.TestCase):

    def test_by_all_moments(self):
        for run, one, _ in itertools.chain(tiny_pairs(142, 120), pairs_of_lots(143, RUNS, 1, 25)):
            check_denials(self, run, one, back_denial, is_beneath)

    def test_begin_end_none_own(self):
        for run in RUNS:
            begin, end = (0,) * len(run), tuple([len(row) for row in run])
            for moment in (begin, end):
                self.assertIsNone(back_denial(run, own_slice(run), moment))
                self.assertTrue(samples.below(back_denial(run, None, moment), moment))
            self.assertIsNone(back_denial(run, begin_slice(run), begin))
        self.assertEqual((0, 0), back_denial(WRITTEN, END, (0, 0)))

    def test_refusals(self):
        arguments = [("run", "run", WRITTEN), ("lot", "lot", OWN), ("moment", "moment", (1, 0))]
        check_call(self, back_denial, arguments)
        check_places(self, back_denial, arguments)


class SixHandsAnd48Deeds(unittest.TestCase):

    def test_ways(self):
        for run in (samples.MANY, samples.LONG, samples.BUSY):
            own = own_slice(run)
            self.assertEqual(own, since(run, own, begin_slice(run)))
            stands = stands_of(run, way_by(run))
            keeps, start = spanned(run, stands), spanned(run, stands[20:30])
            self.assertEqual(spanned(run, stands[20:]), since(run, keeps, start))
            for moment in stands:
                paper = since_paper(run, keeps, start, moment)
                self.assertEqual("way" if moment in stands[20:] else "beyond", paper[0])
                self.assertIs(True, shows_since(run, keeps, start, moment, paper))
                if paper[0] == "way":
                    self.assertIn(paper[1], stands[20:30])
                    self.assertEqual(moment, come_to(run, set(stands), paper[1], paper[2]))
                self.assertIs(back_denial(run, keeps, moment) is None, is_in(run, each_back(run, keeps), moment))
            self.assertIsNone(back_denial(run, keeps, stands[0]))
            self.assertIs(False, is_in(run, start, back_denial(run, start, stands[22])))

    def test_knots(self):
        for run in (samples.MANY, samples.LONG, samples.BUSY):
            stands = stands_of(run, way_by(run))
            keeps = spanned(run, stands[:10] + stands[15:])
            self.assertEqual(spanned(run, stands[:10]), since(run, keeps, begin_slice(run)))
            for moment in stands[15:]:
                paper = since_paper(run, keeps, begin_slice(run), moment)
                self.assertEqual(("knot", knots_in(run, keeps)[0]), paper)
                self.assertIs(True, shows_since(run, keeps, begin_slice(run), moment, paper))
            self.assertEqual(("out",), since_paper(run, keeps, begin_slice(run), stands[12]))

    def test_letters_under_way(self):
        run = samples.BUSY
        waiting = road_slice(run, 0, 1, "most", 0)
        told = since(run, waiting, hand_slice(run, 2, (3,)))
        self.assertIs(True, is_in(run, told, (0, 0, 7, 2)))
        self.assertIs(False, is_in(run, told, (0, 0, 2, 2)))
        self.assertIsNotNone(each_back(run, waiting))


class Alike(unittest.TestCase):

    def test_asked_again(self):
        before = repr((STAIRS, STEPS))
        for _ in range(2):
            self.assertEqual(since_paper(STAIRS, STEPS, STEPS, (2, 2, 1)), since_paper(
                moment=(2, 2, 1), other=STEPS, one=STEPS, run=STAIRS))
            self.assertEqual(back_denial(STAIRS, STEPS, (2, 2, 1)), back_denial(
                moment=(2, 2, 1), lot=STEPS, run=STAIRS))
            self.assertEqual(each_back(STAIRS, STEPS), each_back(lot=STEPS, run=STAIRS))
        self.assertEqual(before, repr((STAIRS, STEPS)))


if __name__ == "__main__":
    unittest.main()

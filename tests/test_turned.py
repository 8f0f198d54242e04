"""Runs, moments and lots turned about."""

import unittest

from mighthave.lots.ahead import each_on, till
from mighthave.lots.behind import each_back, since
from mighthave.lots.plain import hand_slice, road_slice
from mighthave.lots.slices import is_slice, own_slice, spanned
from mighthave.lots.turned import turned, turned_moment, turned_slice
from mighthave.run.pasts import is_known, is_moment
from mighthave.run.runs import is_run
from mighthave.run.ways import stands_of, way_by
from tests import samples
from tests.definitions import all_lots, slice_by_definition
from tests.papers import drawn, pairs_of_lots
from tests.refusals import check_call, check_places
from tests.samples import ALONE, ASKED, CROSSED, DO, EMPTY, HANDS_WITHOUT_DEEDS, RELAY, WRITTEN, send, take
from tests.walked import TINY, drawn_lots

RUNS = list(samples.SMALL) + samples.random_runs(151, 25, 9)
LARGE = (samples.MANY, samples.LONG, samples.BUSY)


def turned_by_definition(run):
    """Each deed at its place counted from the end, and a taken letter the other way."""
    taken = {act[1:]: (hand, place) for hand, row in enumerate(run) for place, (act, _) in enumerate(row)
             if act[:1] == ("take",)}

    def act_about(hand, place):
        act = run[hand][place][0]
        if act[:1] == ("take",):
            return ("send", act[1])
        if (hand, place) not in taken:
            return ()
        taker, at = taken[hand, place]
        return ("take", taker, len(run[taker]) - 1 - at)

    return tuple([tuple([(act_about(hand, len(row) - 1 - at), ()) for at in range(len(row))])
                  for hand, row in enumerate(run)])


def lacking(run, moment):
    return tuple([len(row) - count for row, count in zip(run, moment)])


def without_sets(run):
    return tuple([tuple([(act, ()) for act, _ in row]) for row in run])


class Runs(unittest.TestCase):

    def test_told(self):
        self.assertEqual(((DO, take(1, 0)), (send(0),)), turned(WRITTEN))
        self.assertEqual(((DO, send(1), take(1, 2)), (DO, take(0, 1), send(0))), turned(ASKED))
        self.assertEqual(((DO, DO, DO),), turned(ALONE))
        for run in (EMPTY, HANDS_WITHOUT_DEEDS, samples.MANY, samples.LONG):
            self.assertEqual(run, turned(run))

    def test_letters_overtaking_and_never_taken(self):
        self.assertEqual(((DO, DO, take(1, 2), take(1, 1)), (DO, send(0), send(0)), (DO, DO)), turned(CROSSED))
        self.assertEqual(((DO, DO),) * 2, turned(((send(1), send(1)), (send(0), DO))))

    def test_a_run_again_without_sets(self):
        for run in RUNS + list(LARGE):
            told = turned(run)
            self.assertEqual(turned_by_definition(run), told)
            self.assertIs(True, is_run(told))
            self.assertEqual(without_sets(told), told)

    def test_turned_twice(self):
        for run in RUNS + list(LARGE):
            again = turned(turned(run))
            for hand, place in samples.places(run):
                act = run[hand][place][0]
                if act[:1] == ("send",) and not any(
                        other[0] == ("take", hand, place) for row in run for other in row):
                    act = ()
                self.assertEqual((act, ()), again[hand][place])
        for run in (WRITTEN, RELAY, ASKED, samples.BUSY[:2]):
            self.assertEqual(without_sets(run), turned(turned(run)))

    def test_what_was_known(self):
        for run in RUNS:
            told = turned(run)
            for deed in samples.places(run):
                for other in samples.places(run):
                    about = [(hand, len(run[hand]) - 1 - place) for hand, place in (other, deed)]
                    self.assertIs(is_known(run, deed, other), is_known(told, *about))

    def test_refusals(self):
        check_call(self, turned, [("run", "run", WRITTEN)])
        check_places(self, turned, [("run", "run", WRITTEN)])


class Moments(unittest.TestCase):

    def test_what_they_lack(self):
        self.assertEqual((1, 1), turned_moment(WRITTEN, (1, 0)))
        for run in RUNS:
            moments = samples.moments_by_definition(run)
            told = [turned_moment(run, moment) for moment in moments]
            self.assertEqual([lacking(run, moment) for moment in moments], told)
            self.assertEqual(sorted(told), samples.moments_by_definition(turned(run)))
            for moment in told:
                self.assertEqual(lacking(run, moment), turned_moment(turned(run), moment))

    def test_large(self):
        for run in LARGE:
            about = turned(run)
            for stand in stands_of(run, way_by(run)):
                self.assertIs(True, is_moment(about, turned_moment(run, stand)))
                self.assertEqual(stand, turned_moment(about, turned_moment(run, stand)))

    def test_refusals(self):
        arguments = [("run", "run", WRITTEN), ("moment", "moment", (1, 0))]
        check_call(self, turned_moment, arguments)
        check_places(self, turned_moment, arguments)


class Slices(unittest.TestCase):

    def check(self, run, lot):
        told = turned_slice(run, slice_by_definition(run, lot))
        about = {lacking(run, moment) for moment in lot}
        self.assertEqual(slice_by_definition(turned(run), about), told)
        self.assertEqual(slice_by_definition(run, lot), turned_slice(turned(run), told))

    def test_all_lots_of_tiny_runs(self):
        for run in TINY:
            for lot in all_lots(run):
                self.check(run, lot)

    def test_drawn_lots(self):
        rng = drawn(152)
        for run in RUNS:
            for lot in drawn_lots(rng, run, 5):
                self.check(run, lot)

    def test_none_and_own(self):
        for run in RUNS + list(LARGE):
            self.assertIsNone(turned_slice(run, None))
            self.assertEqual(own_slice(turned(run)), turned_slice(run, own_slice(run)))

    def test_ahead_is_behind(self):
        for run, (_, one), (_, other) in pairs_of_lots(153, RUNS, 2, 25):
            about, told, too = turned(run), turned_slice(run, one), turned_slice(run, other)
            self.assertEqual(turned_slice(run, till(run, one, other)), since(about, told, too))
            self.assertEqual(turned_slice(run, since(run, one, other)), till(about, told, too))
            self.assertEqual(turned_slice(run, each_on(run, one)), each_back(about, told))
            self.assertEqual(turned_slice(run, each_back(run, one)), each_on(about, told))

    def test_large(self):
        rng = drawn(154)
        for run in LARGE:
            about = turned(run)
            stands = stands_of(run, way_by(run))
            for many in (1, 5, 20, 49):
                chosen = tuple(rng.sample(stands, many))
                told = turned_slice(run, spanned(run, chosen))
                self.assertEqual(spanned(about, tuple([lacking(run, moment) for moment in chosen])), told)
            for lot in (hand_slice(run, 2, (3, 4)), road_slice(run, 0, 1, "most", 1), own_slice(run)):
                told = turned_slice(run, lot)
                self.assertIs(True, is_slice(about, told))
                self.assertEqual(lot, turned_slice(about, told))
            self.assertEqual(hand_slice(about, 2, (3,)), turned_slice(run, hand_slice(run, 2, (len(run[2]) - 3,))))

    def test_refusals(self):
        arguments = [("run", "run", WRITTEN), ("lot", "lot", own_slice(WRITTEN))]
        check_call(self, turned_slice, arguments)
        check_places(self, turned_slice, arguments)

    def test_asked_again(self):
        lot = own_slice(RELAY)
        before = repr((RELAY, lot))
        self.assertEqual(turned_slice(RELAY, lot), turned_slice(lot=lot, run=RELAY))
        self.assertEqual(turned_moment(RELAY, (0, 0, 0)), turned_moment(moment=(0, 0, 0), run=RELAY))
        self.assertEqual(before, repr((RELAY, lot)))


if __name__ == "__main__":
    unittest.main()

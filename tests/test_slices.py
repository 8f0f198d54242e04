"""Slices: what they are, which moments are in them, and what they tell of their lots."""

import itertools
import random
import unittest

from mighthave.errors import NoMoment, NoMoments, NoRun, NoSlice
from mighthave.lots.slices import barred_in, down_from, greatest_in, is_in, is_slice, knots_in, least_in, own_slice
from mighthave.lots.slices import spanned, up_from
from mighthave.run.pasts import past_of
from mighthave.run.ways import stands_of, way_by
from tests import samples
from tests.definitions import all_lots, below, closed, greater, is_slice_by_definition, lesser, random_lots
from tests.definitions import slice_by_definition
from tests.refusals import NO_SLICES, check_anything, check_call, check_places, raised
from tests.samples import ASKED, DO, EMPTY, FREE, HANDS_WITHOUT_DEEDS, RELAY, WRITTEN, send, take

RUNS = list(samples.SMALL) + samples.random_runs(51, 25, 8)
OWN = ((0, 0), (((1, 0), (2, 0)), ((1, 1),)))
# Four moments of FREE with a knot of two hands, one of one hand, and barred deeds.
KNOTTED = ((0, 0, 0), (((1, 1, 0), None), ((1, 1, 0),), ((0, 0, 2), (0, 0, 2), None)))


def drawn_lots(seed, runs, many):
    rng = random.Random(seed)
    return [(run, lot) for run in runs for lot in random_lots(rng, run, many)]


def changed(rng, run, lot):
    """The slice with one count, one first, least or one row otherwise, most often still made of counts."""
    least, firsts = lot
    rows = [list(row) for row in firsts]
    hand = rng.randrange(len(run))
    counts = tuple([rng.randint(0, len(row)) for row in run])
    kind = rng.choice(("first", "first", "count", "count", "least", "row", "short", "odd"))
    if kind == "least":
        return (counts, firsts)
    if not rows[hand]:
        return (least, firsts[:hand] + (((0,) * len(run),),) + firsts[hand + 1:])
    place = rng.randrange(len(rows[hand]))
    if kind == "first" or rows[hand][place] is None:
        rows[hand][place] = rng.choice((None, counts, least, tuple([len(row) for row in run])))
    elif kind == "count":
        at = rng.randrange(len(run))
        first = list(rows[hand][place])
        first[at] += rng.choice((-1, 1))
        rows[hand][place] = tuple(first)
    elif kind == "row":
        rows[hand] = [None] * len(rows[hand])
    elif kind == "short":
        rows[hand].pop()
    else:
        rows[hand][place] = rng.choice((list(rows[hand][place]), True, 0, rows[hand][place] + (0,), ()))
    return (least, tuple([tuple(row) for row in rows]))


class IsSlice(unittest.TestCase):

    def test_plain(self):
        for lot in (None, OWN, ((0, 0), ((None, None), (None,))), ((2, 1), (((2, 1), (2, 1)), ((2, 1),))),
                    ((0, 0), (((1, 1), (2, 1)), ((1, 1),))), ((1, 0), (((1, 0), None), ((1, 1),)))):
            self.assertIs(True, is_slice(WRITTEN, lot), lot)
        for thing in NO_SLICES:
            self.assertIs(False, is_slice(WRITTEN, thing), thing)
        self.assertIs(True, is_slice(FREE, KNOTTED))

    def test_without_deeds(self):
        for run in (EMPTY, HANDS_WITHOUT_DEEDS):
            begin = (0,) * len(run)
            self.assertIs(True, is_slice(run, (begin, ((),) * len(run))))
            for thing in ((begin, ()), (begin, ((None,),) * len(run)), ((), ()), (begin, ((),) * (len(run) + 1)),
                          (begin, [()] * len(run)), (begin, ([],) * len(run)), begin, (begin,), ((1,), ((),))):
                self.assertIs(False, is_slice(run, thing), thing)

    def test_each_of_all_forms(self):
        """Just the slices of all lots, of all that can be made of counts, moments or not."""
        for run in (WRITTEN, ((DO,), (DO,)), ((DO, DO),), ((send(1),), (take(0, 0),)), ((send(1),), (DO, take(0, 0)))):
            slices = {slice_by_definition(run, lot) for lot in all_lots(run)} - {None}
            counts = list(itertools.product(*[range(len(row) + 1) for row in run]))
            rows = [list(itertools.product(counts + [None], repeat=len(row))) for row in run]
            told = [(least, firsts) for least in counts for firsts in itertools.product(*rows)
                    if is_slice(run, (least, firsts))]
            self.assertEqual(len(slices), len(told))
            self.assertEqual(slices, set(told))

    def test_of_drawn_lots(self):
        for run, lot in drawn_lots(52, RUNS, 6):
            self.assertIs(True, is_slice(run, slice_by_definition(run, lot)), (run, lot))

    def test_with_one_thing_otherwise(self):
        rng = random.Random(53)
        told = []
        for run, lot in drawn_lots(54, RUNS + samples.random_runs(55, 40, 12), 6):
            for _ in range(8 if lot else 0):
                thing = changed(rng, run, slice_by_definition(run, lot))
                told.append(is_slice(run, thing))
                self.assertIs(is_slice_by_definition(run, thing), told[-1], (run, thing))
        self.assertGreater(told.count(True), 200)
        self.assertGreater(told.count(False), 1000)

    def test_one_thing_wrong(self):
        least, first = OWN
        wrong = {
            "a first below least": ((1, 0), (((0, 0), (2, 0)), ((1, 1),))),
            "a first that lacks its deed": (least, (((1, 0), (1, 0)), ((1, 1),))),
            "no barred one behind a barred one": (least, ((None, (2, 0)), ((1, 1),))),
            "firsts that do not rise": (least, (((2, 0), (1, 0)), ((1, 1),))),
            "a first that does not rise elsewhere": (least, (((1, 1), (2, 0)), ((1, 1),))),
            "a first that is not in": (least, (((1, 0), (2, 1)), (None,))),
            "a first with more of its own hand": (least, (((2, 0), None), (None,))),
            "least that is not in": ((1, 0), (((2, 0), (2, 0)), ((2, 1),))),
            "least with a barred deed": ((1, 0), ((None, None), (None,))),
            "another first of a deed that least has": ((2, 0), (((1, 0), (2, 0)), ((2, 1),))),
            "a first that is no moment": (least, (((1, 0), (2, 0)), ((0, 1),))),
            "a truth": (least, (((True, 0), (2, 0)), ((1, 1),))),
            "a truth in least": ((False, 0), first),
            "a list": (least, ([(1, 0), (2, 0)], ((1, 1),))),
            "a list for a first": (least, (((1, 0), [2, 0]), ((1, 1),))),
            "a row too short": (least, (((1, 0),), ((1, 1),))),
            "a row too long": (least, (((1, 0), (2, 0), None), ((1, 1),))),
            "no row": (least, first[:1]),
            "counts too short": (least, (((1, 0), (2,)), ((1, 1),))),
            "more than there are": (least, (((1, 0), (2, 2)), ((1, 1),))),
            "fewer than none": (least, (((1, -1), (2, 0)), ((1, 1),))),
        }
        for why, thing in wrong.items():
            self.assertIs(False, is_slice(WRITTEN, thing), why)
            self.assertIs(False, is_slice_by_definition(WRITTEN, thing), why)

    def test_of_anything(self):
        for run in (WRITTEN, EMPTY, FREE):
            check_anything(self, is_slice, run)
        self.assertIs(True, is_slice(thing=OWN, run=WRITTEN))
        for bad in (None, (), [WRITTEN], ((DO,),) * 7):
            self.assertIs(NoRun, type(raised(is_slice, bad, None)))
            self.assertIs(NoRun, type(raised(is_slice, thing=OWN, run=bad)))

    def test_of_another_run(self):
        self.assertIs(False, is_slice(ASKED, OWN))
        self.assertIs(False, is_slice(((DO, DO), (DO,)), ((0, 0), (((1, 0), (2, 0)), ((0, 1),), ()))))
        self.assertIs(True, is_slice(((DO, DO), (DO,)), ((0, 0), (((1, 0), (2, 0)), ((0, 1),)))))
        self.assertIs(False, is_slice(WRITTEN, ((0, 0), (((1, 0), (2, 0)), ((0, 1),)))))


class Own(unittest.TestCase):

    def test_slice_of_all(self):
        self.assertEqual(OWN, own_slice(WRITTEN))
        self.assertEqual(((0,), ((),)), own_slice(EMPTY))
        for run in RUNS:
            self.assertEqual(slice_by_definition(run, set(samples.moments_by_definition(run))), own_slice(run))

    def test_refusals(self):
        check_call(self, own_slice, [("run", "run", WRITTEN)])
        check_places(self, own_slice, [("run", "run", WRITTEN)])


class Spanned(unittest.TestCase):

    def test_least_lot(self):
        rng = random.Random(56)
        for run in RUNS:
            moments = samples.moments_by_definition(run)
            for many in (1, 1, 2, 2, 3, 4, 6):
                chosen = tuple(rng.choices(moments, k=many))
                self.assertEqual(slice_by_definition(run, closed(chosen)), spanned(run, chosen), chosen)
            self.assertEqual(own_slice(run), spanned(run, tuple(moments)))

    def test_one_moment_and_the_same_again(self):
        for run in RUNS:
            for moment in samples.moments_by_definition(run):
                rows = [[moment if place < count else None for place in range(len(row))]
                        for row, count in zip(run, moment)]
                told = (moment, tuple([tuple(row) for row in rows]))
                self.assertEqual(told, spanned(run, (moment,)))
                self.assertEqual(told, spanned(run, (moment,) * 3))

    def test_in_any_order(self):
        rng = random.Random(57)
        for run in RUNS:
            chosen = rng.choices(samples.moments_by_definition(run), k=4)
            told = {spanned(run, row) for row in itertools.permutations(chosen)}
            self.assertEqual(1, len(told))
        self.assertEqual(((0, 0, 0), (((1, 0, 0), None), ((0, 1, 0),), (None,) * 3)),
                         spanned(FREE, ((0, 1, 0), (1, 0, 0))))

    def test_refusals(self):
        arguments = [("run", "run", WRITTEN), ("moments", "spanning", ((2, 0), (1, 1), (2, 0)))]
        check_call(self, spanned, arguments)
        check_places(self, spanned, arguments)
        self.assertIs(NoMoments, type(raised(spanned, WRITTEN, ())))


class Looking(unittest.TestCase):
    """is_in, up_from, down_from, least_in, greatest_in, by all moments of the run."""

    def check(self, run, lot):
        told = slice_by_definition(run, lot)
        for moment in samples.moments_by_definition(run):
            above = [each for each in lot if below(moment, each)]
            under = [each for each in lot if below(each, moment)]
            up = [each for each in above if all(below(each, other) for other in above)]
            down = [each for each in under if all(below(other, each) for other in under)]
            self.assertIs(moment in lot, is_in(run, told, moment))
            self.assertEqual(up[0] if up else None, up_from(run, told, moment))
            self.assertEqual(down[0] if down else None, down_from(run, told, moment))
        self.assertEqual(min(lot, key=sum, default=None), least_in(run, told))
        self.assertEqual(max(lot, key=sum, default=None), greatest_in(run, told))

    def test_all_lots_of_small_runs(self):
        for run in (WRITTEN, ((DO,), (DO,)), ((send(1),), (DO, take(0, 0))), EMPTY):
            for lot in all_lots(run):
                self.check(run, lot)

    def test_drawn_lots(self):
        for run, lot in drawn_lots(58, RUNS, 4):
            self.check(run, lot)

    def test_beside_above_and_below(self):
        lot = spanned(FREE, ((1, 0, 1), (1, 1, 2)))
        self.assertEqual((1, 0, 1), up_from(FREE, lot, (0, 0, 0)))
        self.assertIsNone(down_from(FREE, lot, (0, 0, 0)))
        self.assertEqual((1, 1, 2), up_from(FREE, lot, (0, 1, 0)))
        self.assertEqual((1, 0, 1), down_from(FREE, lot, (1, 1, 1)))
        self.assertIsNone(up_from(FREE, lot, (2, 1, 3)))
        self.assertEqual((1, 1, 2), down_from(FREE, lot, (2, 1, 3)))
        self.assertIsNone(up_from(FREE, lot, (2, 0, 0)))
        self.assertIsNone(down_from(FREE, lot, (0, 1, 3)))
        self.assertEqual((1, 1, 2), up_from(FREE, lot, (1, 1, 2)))

    def test_of_none(self):
        for run in RUNS[:12]:
            self.assertIsNone(least_in(run, None))
            self.assertIsNone(greatest_in(run, None))
            for moment in samples.moments_by_definition(run):
                self.assertIs(False, is_in(run, None, moment))
                self.assertIsNone(up_from(run, None, moment))
                self.assertIsNone(down_from(run, None, moment))

    def test_refusals(self):
        arguments = [("run", "run", WRITTEN), ("lot", "lot", OWN), ("moment", "moment", (1, 0))]
        for call in (is_in, up_from, down_from):
            check_call(self, call, arguments)
            check_places(self, call, arguments)
            self.assertIs(NoMoment, type(raised(call, WRITTEN, None, (0, 1))))
            self.assertIs(NoSlice, type(raised(call, WRITTEN, (), (0, 1))))
        for call in (least_in, greatest_in, barred_in, knots_in):
            check_call(self, call, arguments[:2])
            check_places(self, call, arguments[:2])


class BarredAndKnots(unittest.TestCase):

    def test_barred(self):
        self.assertEqual((), barred_in(WRITTEN, OWN))
        self.assertEqual(((0, 0), (0, 1), (1, 0)), barred_in(WRITTEN, None))
        self.assertEqual(((0, 1), (2, 2)), barred_in(FREE, KNOTTED))
        self.assertEqual((), barred_in(EMPTY, None))
        for run, lot in drawn_lots(59, RUNS, 4):
            deeds = [(hand, place) for hand, place in samples.places(run) if not any(m[hand] > place for m in lot)]
            self.assertEqual(tuple(deeds), barred_in(run, slice_by_definition(run, lot)))

    def test_knots(self):
        self.assertEqual((((0, 0), (1, 0)), ((2, 0), (2, 1))), knots_in(FREE, KNOTTED))
        self.assertEqual((), knots_in(WRITTEN, OWN))
        self.assertEqual((), knots_in(WRITTEN, None))
        self.assertEqual((), knots_in(FREE, spanned(FREE, ((2, 1, 3),))))
        self.assertEqual((((0, 0), (0, 1), (1, 0), (2, 0), (2, 1), (2, 2)),),
                         knots_in(FREE, spanned(FREE, ((0, 0, 0), (2, 1, 3)))))
        self.assertEqual((((0, 1), (2, 2)),), knots_in(FREE, spanned(FREE, ((2, 1, 3), (1, 1, 2)))))

    def test_knots_rise(self):
        """By their deeds, not by when these come."""
        run = ((DO, DO), (DO, DO), (DO, DO))
        lot = spanned(run, ((0, 0, 0), (0, 1, 1), (2, 1, 1), (2, 2, 2)))
        self.assertEqual((((0, 0), (0, 1)), ((1, 0), (2, 0)), ((1, 1), (2, 1))), knots_in(run, lot))

    def test_come_all_at_once(self):
        for run, lot in drawn_lots(60, RUNS, 5):
            told = knots_in(run, slice_by_definition(run, lot))
            coming = {}
            for hand, place in samples.places(run):
                with_it = frozenset([m for m in lot if m[hand] > place])
                if with_it and with_it != lot:
                    coming.setdefault(with_it, []).append((hand, place))
            self.assertEqual(tuple(sorted([tuple(knot) for knot in coming.values() if len(knot) > 1])), told)


class SixHandsAnd48Deeds(unittest.TestCase):

    def test_own(self):
        for run in (samples.MANY, samples.LONG, samples.BUSY):
            least, firsts = own_slice(run)
            self.assertEqual((0,) * len(run), least)
            for hand, place in samples.places(run):
                self.assertEqual(past_of(run, (hand, place)), firsts[hand][place])
            self.assertIs(True, is_slice(run, (least, firsts)))
            self.assertEqual(tuple([len(row) for row in run]), greatest_in(run, own_slice(run)))
            self.assertEqual((), barred_in(run, own_slice(run)))
            self.assertEqual((), knots_in(run, own_slice(run)))
            self.assertEqual(tuple(samples.places(run)), barred_in(run, None))

    def test_of_moments(self):
        rng = random.Random(61)
        for run in (samples.MANY, samples.LONG, samples.BUSY):
            stands = stands_of(run, way_by(run))
            chosen = tuple(rng.sample(stands, 5))
            lot = spanned(run, chosen)
            self.assertIs(True, is_slice(run, lot))
            self.assertEqual(min(chosen, key=sum), least_in(run, lot))
            self.assertEqual(max(chosen, key=sum), greatest_in(run, lot))
            for stand in stands:
                self.assertIs(stand in chosen, is_in(run, lot, stand))
                above, under = [m for m in chosen if below(stand, m)], [m for m in chosen if below(m, stand)]
                self.assertEqual(min(above, key=sum, default=None), up_from(run, lot, stand))
                self.assertEqual(max(under, key=sum, default=None), down_from(run, lot, stand))

    def test_of_moments_neither_at_or_below_the_other(self):
        one, other = (8, 0, 3, 0, 0, 1), (0, 8, 3, 2, 0, 0)
        lot = spanned(samples.MANY, (one, other))
        for moment in (one, other, lesser(one, other), greater(one, other)):
            self.assertIs(True, is_in(samples.MANY, lot, moment))
        self.assertIs(False, is_in(samples.MANY, lot, (8, 1, 3, 0, 0, 1)))
        self.assertEqual(2, len(knots_in(samples.MANY, lot)))
        self.assertEqual(((5, 0), (5, 1), (5, 2)), knots_in(samples.MANY, spanned(
            samples.MANY, ((0,) * 6, (0, 0, 0, 0, 0, 3))))[0])
        self.assertEqual(one, up_from(samples.MANY, lot, (1, 0, 0, 0, 0, 0)))
        self.assertEqual(other, down_from(samples.MANY, lot, (7, 8, 8, 8, 8, 8)))

    def test_one_knot_of_all(self):
        lot = spanned(samples.MANY, ((0,) * 6, (8,) * 6))
        self.assertEqual((tuple(samples.places(samples.MANY)),), knots_in(samples.MANY, lot))


class Alike(unittest.TestCase):

    def test_nothing_is_changed(self):
        lot = own_slice(RELAY)
        before = repr((RELAY, lot))
        for call in (least_in, greatest_in, barred_in, knots_in):
            self.assertEqual(call(RELAY, lot), call(RELAY, lot))
        self.assertEqual(before, repr((RELAY, lot)))


if __name__ == "__main__":
    unittest.main()

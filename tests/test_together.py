"""What two lots have together, their hull, within, witnesses."""

import itertools
import random
import unittest

from mighthave.errors import NoRun, NoSlice
from mighthave.lots.plain import begin_slice, end_slice, hand_slice, road_slice
from mighthave.lots.slices import is_slice, own_slice, spanned
from mighthave.lots.together import all_of, both, hull, is_within, shows_witness, witness
from mighthave.run.ways import stands_of, way_by
from tests import samples
from tests.definitions import closed, slice_by_definition
from tests.papers import pairs_of_lots, tiny_pairs
from tests.refusals import NO_SLICES, check_anything, check_call, check_places, raised
from tests.samples import ASKED, DO, EMPTY, FREE, RELAY, WRITTEN
from tests.walked import drawn_lots

RUNS = list(samples.SMALL) + samples.random_runs(91, 20, 8)
OWN = ((0, 0), (((1, 0), (2, 0)), ((1, 1),)))
END = ((2, 1), (((2, 1), (2, 1)), ((2, 1),)))


class BothAndHull(unittest.TestCase):

    def check(self, run, one, other):
        (lot, told), (also, too) = one, other
        self.assertEqual(slice_by_definition(run, lot & also), both(run, told, too), (run, told, too))
        self.assertEqual(slice_by_definition(run, closed(lot | also)), hull(run, told, too), (run, told, too))

    def test_all_lots_of_tiny_runs(self):
        for run, one, other in tiny_pairs(92):
            self.check(run, one, other)

    def test_drawn_lots(self):
        for run, one, other in pairs_of_lots(93, RUNS):
            self.check(run, one, other)

    def test_in_any_order_the_same(self):
        for run, (_, told), (_, too) in pairs_of_lots(94, RUNS[:16]):
            self.assertEqual(both(run, told, too), both(run, too, told))
            self.assertEqual(hull(run, told, too), hull(run, too, told))
            self.assertEqual(told, both(run, told, told))
            self.assertEqual(told, hull(run, told, told))
            self.assertEqual(told, both(run, told, own_slice(run)))
            self.assertEqual(own_slice(run), hull(run, own_slice(run), told))

    def test_nothing_together(self):
        self.assertIsNone(both(WRITTEN, begin_slice(WRITTEN), end_slice(WRITTEN)))
        self.assertIsNone(both(WRITTEN, hand_slice(WRITTEN, 0, (0, 1)), hand_slice(WRITTEN, 0, (2,))))
        # Each has a moment above one of the other's.
        self.assertIsNone(both(FREE, spanned(FREE, ((0, 0, 0), (1, 1, 1))), spanned(FREE, ((1, 0, 0), (2, 1, 1)))))

    def test_of_none(self):
        for run in RUNS:
            for lot in (None, own_slice(run), end_slice(run)):
                self.assertIsNone(both(run, None, lot))
                self.assertIsNone(both(run, lot, None))
                self.assertEqual(lot, hull(run, None, lot))
                self.assertEqual(lot, hull(run, lot, None))

    def test_refusals(self):
        arguments = [("run", "run", WRITTEN), ("one", "lot", OWN), ("other", "lot", END)]
        for call in (both, hull, is_within, witness):
            check_call(self, call, arguments)
            check_places(self, call, arguments)
        self.assertIs(NoSlice, type(raised(both, WRITTEN, own_slice(ASKED), None)))
        self.assertIs(NoSlice, type(raised(both, FREE, own_slice(FREE), own_slice(RELAY))))


class AllOf(unittest.TestCase):

    def test_none_to_four(self):
        rng = random.Random(95)
        for run in RUNS:
            lots = drawn_lots(rng, run)
            moments = set(samples.moments_by_definition(run))
            for many in (0, 1, 2, 3, 4, 4):
                chosen = rng.choices(lots, k=many)
                told = [slice_by_definition(run, lot) for lot in chosen]
                have = slice_by_definition(run, moments.intersection(*chosen))
                self.assertEqual(have, all_of(run, tuple(told)))
                self.assertEqual(have, all_of(run, tuple(told[::-1])))

    def test_of_none_the_own_slice(self):
        for run in RUNS:
            self.assertEqual(own_slice(run), all_of(run, ()))
            self.assertIsNone(all_of(run, (None,)))
            self.assertIsNone(all_of(run, (own_slice(run), None, own_slice(run))))
            self.assertIsNone(all_of(run, (None, own_slice(run))))

    def test_refusals(self):
        self.assertEqual(OWN, all_of(lots=(OWN, OWN), run=WRITTEN))
        check_call(self, all_of, [("run", "run", WRITTEN), ("lots", "lots", (OWN, END))])
        check_places(self, all_of, [("run", "run", WRITTEN), ("lots", "lots", (OWN, END))])
        for lots in ((OWN,) * 5, (None,) * 5, [OWN], [], None, OWN, {}, "", (OWN, ()), (None, [OWN])):
            self.assertIs(NoSlice, type(raised(all_of, WRITTEN, lots)), lots)
        for bad in NO_SLICES:
            for lots in ((bad,), (OWN, bad), (bad, OWN), (None, END, OWN, bad)):
                self.assertIs(NoSlice, type(raised(all_of, WRITTEN, lots)), lots)


class Within(unittest.TestCase):

    def check(self, run, one, other):
        (lot, told), (also, too) = one, other
        self.assertIs(lot <= also, is_within(run, told, too))
        beyond = witness(run, told, too)
        self.assertIs(lot <= also, beyond is None)
        self.assertIs(not lot <= also, shows_witness(run, told, too, beyond))
        if beyond is not None:
            self.assertIn(beyond, lot - also)

    def test_all_lots_of_tiny_runs(self):
        for run, one, other in tiny_pairs(96, 1200):
            self.check(run, one, other)

    def test_drawn_lots(self):
        for run, one, other in pairs_of_lots(97, RUNS):
            self.check(run, one, other)

    def test_empty_within_each(self):
        for run in RUNS:
            for lot in (None, own_slice(run), begin_slice(run)):
                self.assertIs(True, is_within(run, None, lot))
                self.assertIs(True, is_within(run, lot, own_slice(run)))
                self.assertIsNone(witness(run, None, lot))
                self.assertIs(lot is None, is_within(run, lot, None))

    def test_each_witness_is_shown(self):
        rng = random.Random(98)
        for run, (lot, told), (also, too) in itertools.chain(pairs_of_lots(99, RUNS[:14], 1), tiny_pairs(100, 100)):
            counts = [tuple([rng.randint(0, len(row) + 1) for row in run]) for _ in range(3)]
            for moment in samples.moments_by_definition(run) + counts:
                right = moment in lot and moment not in also
                self.assertIs(right, shows_witness(run, told, too, moment))
                self.assertIs(False, shows_witness(run, told, too, list(moment)))
                self.assertIs(False, shows_witness(run, told, too, moment + (0,)))
                self.assertIs(False, shows_witness(run, told, too, moment[:-1]))
                self.assertIs(False, shows_witness(run, told, too, (moment,)))
                for at in [at for at, count in enumerate(moment) if count < 2]:
                    truths = moment[:at] + (bool(moment[at]),) + moment[at + 1:]
                    self.assertIs(False, shows_witness(run, told, too, truths))

    def test_of_anything(self):
        for one, other in ((OWN, END), (OWN, None), (None, OWN), (None, None)):
            check_anything(self, shows_witness, WRITTEN, one, other)
            self.assertIs(False, shows_witness(WRITTEN, one, other, None))
        check_anything(self, shows_witness, EMPTY, own_slice(EMPTY), None)
        self.assertIs(True, shows_witness(thing=(1, 0), other=END, one=OWN, run=WRITTEN))
        arguments = [("run", "run", WRITTEN), ("one", "lot", OWN), ("other", "lot", END)]
        check_call(self, lambda run, one, other: shows_witness(run, one, other, []), arguments)
        self.assertIs(NoRun, type(raised(shows_witness, None, (), (), ())))


class SixHandsAnd48Deeds(unittest.TestCase):

    def test_stands_of_a_way(self):
        rng = random.Random(101)
        for run in (samples.MANY, samples.LONG, samples.BUSY):
            stands = stands_of(run, way_by(run))
            one, other = rng.sample(stands, 12), rng.sample(stands, 12)
            told, too = spanned(run, tuple(one)), spanned(run, tuple(other))
            together = set(one) & set(other)
            self.assertEqual(spanned(run, tuple(together)) if together else None, both(run, told, too))
            self.assertEqual(spanned(run, tuple(one + other)), hull(run, told, too))
            self.assertIs(False, is_within(run, told, too))
            self.assertIs(True, is_within(run, told, hull(run, told, too)))
            self.assertIn(witness(run, told, too), set(one) - set(other))
            for stand in stands:
                self.assertIs(stand in one and stand not in other, shows_witness(run, told, too, stand))

    def test_hands_without_letters(self):
        run = samples.MANY
        lots = tuple([hand_slice(run, hand, (hand, 8)) for hand in range(4)])
        told = all_of(run, lots)
        self.assertEqual((0, 1, 2, 3, 0, 0), told[0])
        self.assertEqual((8, 1, 2, 3, 0, 0), told[1][0][0])
        self.assertEqual((0, 1, 2, 3, 0, 5), told[1][5][4])
        self.assertIs(True, is_slice(run, told))
        self.assertIs(True, is_within(run, told, lots[3]))
        self.assertIs(False, is_within(run, lots[3], told))

    def test_letters_to_and_fro(self):
        run = samples.BUSY
        under_way = both(run, road_slice(run, 0, 1, "just", 1), hand_slice(run, 1, tuple(range(6))))
        self.assertEqual((1, 0, 0, 0), under_way[0])
        self.assertIsNone(both(run, road_slice(run, 0, 1, "least", 1), road_slice(run, 1, 0, "least", 1)))
        self.assertEqual(end_slice(run), both(run, hand_slice(run, 0, (12,)), both(
            run, hand_slice(run, 2, (12,)), both(run, hand_slice(run, 3, (12,)), hand_slice(run, 1, (12,))))))


class Alike(unittest.TestCase):

    def test_asked_again(self):
        run = ((DO, DO), (DO,))
        one, other = spanned(run, ((0, 0), (1, 1))), spanned(run, ((1, 0), (1, 1)))
        before = repr((run, one, other))
        for call in (both, hull, is_within, witness):
            self.assertEqual(call(run, one, other), call(run, other=other, one=one))
            self.assertEqual(call(run, one, other), call(run, one, other))
        self.assertEqual(before, repr((run, one, other)))


if __name__ == "__main__":
    unittest.main()

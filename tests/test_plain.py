"""Slices of a hand's counts, of letters under way on a road, of BEGIN and END alone."""

import itertools
import random
import unittest

from mighthave.errors import NoCounts, NoHand, NoNumber, NoRun, NoSaying
from mighthave.lots import plain
from mighthave.lots.plain import begin_slice, end_slice, hand_slice, road_slice
from mighthave.lots.slices import barred_in, greatest_in, is_in, is_slice, knots_in, least_in, own_slice, spanned
from mighthave.lots.slices import up_from
from mighthave.run.pasts import past_of, under_way
from mighthave.run.ways import stands_of, way_by
from mighthave.say.sayings import meant
from tests import samples
from tests.definitions import ROAD_WORDS, fits_road, is_lot, slice_by_definition
from tests.refusals import check_call, check_places, raised
from tests.samples import CROSSED, DO, EMPTY, FREE, HANDS_WITHOUT_DEEDS, WRITTEN, send, take

RUNS = list(samples.SMALL) + samples.random_runs(71, 25, 9)
# Three letters there, taken last one first and the first one never; two back.
ROUND = (
    (send(1), send(1), send(1), take(1, 2), DO),
    (take(0, 2), take(0, 1), send(0), send(0)),
)


class HandSlice(unittest.TestCase):

    def check(self, run, hand, counts):
        lot = {moment for moment in samples.moments_by_definition(run) if moment[hand] in counts}
        self.assertEqual(slice_by_definition(run, lot), hand_slice(run, hand, counts), (run, hand, counts))

    def test_plain(self):
        self.assertEqual(((1, 0), (((1, 0), (2, 0)), ((1, 1),))), hand_slice(WRITTEN, 0, (1, 2)))
        self.assertEqual(((0, 0), (((2, 0), (2, 0)), ((2, 1),))), hand_slice(WRITTEN, 0, (0, 2)))
        self.assertEqual(((0, 0), (((1, 0), (2, 0)), (None,))), hand_slice(WRITTEN, 1, (0,)))
        self.assertEqual(((1, 1), (((1, 1), (2, 1)), ((1, 1),))), hand_slice(WRITTEN, 1, (1,)))

    def test_none(self):
        for run in RUNS:
            for hand in range(len(run)):
                self.assertIsNone(hand_slice(run, hand, ()))

    def test_one_all_and_with_gaps(self):
        for run in samples.SMALL:
            for hand, row in enumerate(run):
                whole = range(len(row) + 1)
                for many in range(len(row) + 2):
                    for counts in itertools.combinations(whole, many):
                        self.check(run, hand, counts)

    def test_drawn_runs(self):
        rng = random.Random(72)
        for run in RUNS:
            for hand, row in enumerate(run):
                self.assertEqual(own_slice(run), hand_slice(run, hand, tuple(range(len(row) + 1))))
                for _ in range(4):
                    chosen = rng.sample(range(len(row) + 1), rng.randint(1, len(row) + 1))
                    self.check(run, hand, tuple(sorted(chosen)))

    def test_first_of_a_deed_of_the_hand(self):
        """The past of the deed that leads to the least told count from there on."""
        run = samples.BUSY
        counts = (0, 3, 4, 9)
        for hand in range(4):
            _, firsts = hand_slice(run, hand, counts)
            for place in range(12):
                further = [count for count in counts if count > place]
                told = past_of(run, (hand, further[0] - 1)) if further else None
                self.assertEqual(told, firsts[hand][place])

    def test_without_deeds(self):
        for run in (EMPTY, HANDS_WITHOUT_DEEDS):
            for hand in range(len(run)):
                self.assertEqual(own_slice(run), hand_slice(run, hand, (0,)))
                self.assertIs(NoCounts, type(raised(hand_slice, run, hand, (1,))))

    def test_of_48_deeds(self):
        for run in (samples.MANY, samples.LONG, samples.BUSY):
            stands = stands_of(run, way_by(run))
            for hand, row in enumerate(run):
                counts = tuple(range(1, len(row), 3))
                lot = hand_slice(run, hand, counts)
                self.assertIs(True, is_slice(run, lot))
                self.assertEqual(past_of(run, (hand, 0)), least_in(run, lot))
                for stand in stands:
                    self.assertIs(stand[hand] in counts, is_in(run, lot, stand))
                self.assertEqual(counts[-1], greatest_in(run, lot)[hand])

    def test_refusals(self):
        arguments = [("run", "run", WRITTEN), ("hand", "hand", 0), ("counts", "counts", (0, 2))]
        check_call(self, hand_slice, arguments)
        check_places(self, hand_slice, arguments)
        self.assertIs(NoCounts, type(raised(hand_slice, WRITTEN, 1, (0, 2))))
        self.assertIs(NoHand, type(raised(hand_slice, WRITTEN, 2, (0, 9))))
        self.assertIsNone(hand_slice(counts=(), hand=1, run=WRITTEN))


class RoadSlice(unittest.TestCase):

    def check(self, run, one, other, word, k):
        lot = {moment for moment in samples.moments_by_definition(run) if fits_road(run, moment, one, other, word, k)}
        self.assertTrue(is_lot(lot))
        told = road_slice(run, one, other, word, k)
        self.assertEqual(slice_by_definition(run, lot), told, (run, one, other, word, k))

    def test_plain(self):
        self.assertEqual(((1, 0), (((1, 0), (2, 0)), (None,))), road_slice(WRITTEN, 0, 1, "least", 1))
        self.assertEqual(((0, 0), (((1, 1), (2, 1)), ((1, 1),))), road_slice(WRITTEN, 0, 1, "most", 0))
        self.assertEqual(own_slice(WRITTEN), road_slice(WRITTEN, 0, 1, "most", 1))
        self.assertEqual(own_slice(WRITTEN), road_slice(WRITTEN, 1, 0, "just", 0))
        self.assertIsNone(road_slice(WRITTEN, 0, 1, "least", 2))
        self.assertIsNone(road_slice(WRITTEN, 1, 0, "just", 1))

    def test_words(self):
        self.assertEqual(("most", "least", "just"), plain.WORDS)
        self.assertEqual(ROAD_WORDS, plain.WORDS)

    def test_each_word_and_number(self):
        for run in RUNS + [ROUND]:
            for one, other in itertools.permutations(range(len(run)), 2):
                for word in ROAD_WORDS:
                    for k in (0, 1, 2, 3, 4, 12):
                        self.check(run, one, other, word, k)

    def test_taken_in_another_order(self):
        for run in (CROSSED, ROUND):
            for one, other in itertools.permutations(range(len(run)), 2):
                for word in ROAD_WORDS:
                    for k in range(13):
                        self.check(run, one, other, word, k)

    def test_never_taken(self):
        run = ((send(1), send(1)), ())
        self.assertIsNone(road_slice(run, 0, 1, "just", 3))
        self.assertEqual((1, 0), least_in(run, road_slice(run, 0, 1, "just", 1)))
        self.assertEqual(((0, 1),), barred_in(run, road_slice(run, 0, 1, "most", 1)))

    def test_no_letters(self):
        for run in (HANDS_WITHOUT_DEEDS, FREE):
            self.assertEqual(own_slice(run), road_slice(run, 0, 2, "least", 0))
            self.assertEqual(own_slice(run), road_slice(run, 0, 2, "just", 0))
            self.assertEqual(own_slice(run), road_slice(run, 2, 0, "most", 12))
            self.assertIsNone(road_slice(run, 0, 2, "least", 1))
            self.assertIsNone(road_slice(run, 0, 2, "just", 12))

    def test_a_sending_that_knows_a_take(self):
        """The letter that is still asked for brings the one before it to its taker."""
        run = ((send(1), take(1, 1), send(1), DO), (take(0, 0), send(0), DO))
        self.assertEqual(((1, 0), (((1, 0), (3, 2), (3, 2), (4, 2)), ((3, 2), (3, 2), (3, 3)))),
                         road_slice(run, 0, 1, "least", 1))
        self.check(run, 0, 1, "least", 1)
        self.check(run, 0, 1, "just", 1)

    def test_of_48_deeds(self):
        for run in (samples.MANY, samples.LONG, samples.BUSY, letters_of_12()):
            stands = stands_of(run, way_by(run))
            for one, other in ((0, 1), (1, 0), (3, 0), (2, 3)):
                for word, k in itertools.product(ROAD_WORDS, (0, 1, 5, 12)):
                    lot = road_slice(run, one, other, word, k)
                    self.assertIs(True, is_slice(run, lot))
                    for stand in stands:
                        self.assertIs(fits_road(run, stand, one, other, word, k), is_in(run, lot, stand))
                    if lot is not None:
                        for moment in (least_in(run, lot), greatest_in(run, lot)):
                            self.assertTrue(fits_road(run, moment, one, other, word, k))
        self.assertEqual(12, under_way(samples.BUSY, 3, 0, (0, 0, 0, 12)))
        self.assertEqual((0, 0, 0, 12), least_in(samples.BUSY, road_slice(samples.BUSY, 3, 0, "just", 12)))

    def test_refusals(self):
        arguments = [("run", "run", WRITTEN), ("one", "hand", 0), ("other", "hand", 1), ("word", "word", "just"),
                     ("k", "letters", 1)]
        check_call(self, road_slice, arguments)
        check_places(self, road_slice, arguments)

    def test_no_road_to_oneself(self):
        for hand in (0, 1):
            error = raised(road_slice, WRITTEN, hand, hand, "is", 13)
            self.assertIs(NoHand, type(error))
            self.assertEqual(hand, error.hand)
        self.assertEqual(2, raised(road_slice, WRITTEN, 2, 2, "most", 0).hand)
        self.assertIs(NoHand, type(raised(road_slice, EMPTY, 0, 0, "most", 0)))
        self.assertIs(NoRun, type(raised(road_slice, (), 0, 0, "most", 0)))

    def test_no_such_word_ahead_of_no_such_number(self):
        self.assertIs(NoSaying, type(raised(road_slice, WRITTEN, 0, 1, "is", 13)))
        error = raised(road_slice, WRITTEN, 0, 1, "most", 13)
        self.assertIs(NoNumber, type(error))
        self.assertEqual(13, error.number)


def letters_of_12():
    """Twelve letters on one road, taken last one first by a hand that knows of them all; 48 deeds, six hands."""
    taking = tuple([take(0, place) for place in range(11, -1, -1)])
    return (tuple([send(1)] * 12), taking, tuple([DO] * 12), tuple([DO] * 10), (), (DO, DO))


class BeginAndEnd(unittest.TestCase):

    def test_these_moments_alone(self):
        for run in RUNS:
            moments = samples.moments_by_definition(run)
            begin, end = moments[0], moments[-1]
            self.assertEqual(slice_by_definition(run, {begin}), begin_slice(run))
            self.assertEqual(slice_by_definition(run, {end}), end_slice(run))
            self.assertEqual(meant(run, ("begin",)), tuple([m for m in moments if is_in(run, begin_slice(run), m)]))
            self.assertEqual(meant(run, ("end",)), tuple([m for m in moments if is_in(run, end_slice(run), m)]))

    def test_plain(self):
        self.assertEqual(((0, 0), ((None, None), (None,))), begin_slice(WRITTEN))
        self.assertEqual(((2, 1), (((2, 1), (2, 1)), ((2, 1),))), end_slice(WRITTEN))

    def test_without_deeds(self):
        for run in (EMPTY, HANDS_WITHOUT_DEEDS):
            self.assertEqual(own_slice(run), begin_slice(run))
            self.assertEqual(own_slice(run), end_slice(run))

    def test_of_48_deeds(self):
        for run in (samples.MANY, samples.LONG, samples.BUSY):
            begin, end = (0,) * len(run), tuple([len(row) for row in run])
            self.assertEqual(spanned(run, (begin,)), begin_slice(run))
            self.assertEqual(spanned(run, (end,)), end_slice(run))
            self.assertEqual(tuple(samples.places(run)), barred_in(run, begin_slice(run)))
            self.assertEqual((), knots_in(run, begin_slice(run)))
            self.assertEqual((), knots_in(run, end_slice(run)))
            self.assertEqual(end, up_from(run, end_slice(run), begin))

    def test_refusals(self):
        for call in (begin_slice, end_slice):
            check_call(self, call, [("run", "run", WRITTEN)])
            check_places(self, call, [("run", "run", WRITTEN)])


if __name__ == "__main__":
    unittest.main()

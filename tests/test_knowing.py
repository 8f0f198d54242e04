"""What a hand knows of a lot and holds possible, its doubts, what it learns and forgets."""

import unittest

from mighthave.errors import NoHand, NoNumber, NoSlice
from mighthave.lots.knowing import doubt, forgotten, hangs_on_others, high_at, holding, holds_possible, knowing
from mighthave.lots.knowing import knows_at, learned, low_at
from mighthave.lots.plain import begin_slice, end_slice, hand_slice, road_slice
from mighthave.lots.slices import is_in, is_slice, own_slice, spanned
from mighthave.lots.together import both
from mighthave.run.pasts import past_of
from mighthave.run.ways import stands_of, way_by
from tests import samples
from tests.definitions import all_lots, slice_by_definition
from tests.papers import drawn, lots_of
from tests.refusals import check_call, check_places, raised
from tests.samples import ALONE, ASKED, EMPTY, FREE, HANDS_WITHOUT_DEEDS, RELAY, WRITTEN, below, send, take
from tests.walked import TINY, greatest_of, least_of

RUNS = list(samples.SMALL) + samples.random_runs(161, 24, 8)
LARGE = (samples.MANY, samples.LONG, samples.BUSY)
OWN = ((0, 0), (((1, 0), (2, 0)), ((1, 1),)))


def by_count(run, hand):
    """The moments with each count of the hand's deeds."""
    told = [[] for _ in range(len(run[hand]) + 1)]
    for moment in samples.moments_by_definition(run):
        told[moment[hand]].append(moment)
    return told


def runs_hands_and_lots(seed, many=3):
    rng = drawn(seed)
    for run in TINY[:6]:
        for lot in all_lots(run):
            for hand in range(len(run)):
                yield run, hand, (lot, slice_by_definition(run, lot))
    for run in RUNS:
        for one in lots_of(rng, run, many):
            for hand in range(len(run)):
                yield run, hand, one


def counts_known(run, hand, lot):
    return tuple([count for count, moments in enumerate(by_count(run, hand)) if lot >= set(moments)])


def counts_possible(run, hand, lot):
    return tuple([count for count, moments in enumerate(by_count(run, hand)) if lot & set(moments)])


class LowAndHigh(unittest.TestCase):

    def test_each_count_of_each_hand(self):
        for run in RUNS:
            for hand in range(len(run)):
                for count, moments in enumerate(by_count(run, hand)):
                    low, high = low_at(run, hand, count), high_at(run, hand, count)
                    self.assertEqual(least_of(moments), low)
                    self.assertEqual(greatest_of(moments), high)
                    between = [m for m in samples.moments_by_definition(run) if below(low, m) and below(m, high)]
                    self.assertEqual(moments, between)

    def test_none_and_all(self):
        for run in RUNS + list(LARGE):
            for hand, row in enumerate(run):
                self.assertEqual((0,) * len(run), low_at(run, hand, 0))
                self.assertEqual(tuple(map(len, run)), high_at(run, hand, len(row)))
                for count in range(1, len(row) + 1):
                    self.assertEqual(past_of(run, (hand, count - 1)), low_at(run, hand, count))
        self.assertEqual((1, 0), low_at(WRITTEN, 0, 1))
        self.assertEqual((0, 0), high_at(WRITTEN, 0, 0))
        self.assertEqual((1, 1), high_at(WRITTEN, 0, 1))
        self.assertEqual((3, 1, 1), high_at(RELAY, 1, 1))

    def test_refusals(self):
        for call in (low_at, high_at):
            arguments = [("run", "run", WRITTEN), ("hand", "hand", 0), ("count", "count", 1)]
            check_call(self, call, arguments)
            check_places(self, call, arguments)
            for bad in (-1, 3, True, False, None, "1", (1,)):
                error = raised(call, WRITTEN, 0, bad)
                self.assertIs(NoNumber, type(error))
                self.assertIs(bad, error.number)
            self.assertIs(NoNumber, type(raised(call, WRITTEN, 1, 2)))
            self.assertIs(NoHand, type(raised(call, WRITTEN, 2, 9)))
            self.assertIs(NoNumber, type(raised(call, EMPTY, 0, 1)))


class KnowsAndHolds(unittest.TestCase):

    def test_by_all_moments(self):
        for run, hand, (lot, told) in runs_hands_and_lots(162):
            known, possible = counts_known(run, hand, lot), counts_possible(run, hand, lot)
            self.assertEqual(known, knows_at(run, hand, told), (run, hand, told))
            self.assertEqual(possible, holds_possible(run, hand, told), (run, hand, told))
            self.assertEqual(hand_slice(run, hand, known), knowing(run, hand, told))
            self.assertEqual(hand_slice(run, hand, possible), holding(run, hand, told))

    def test_slices_of_moments_with_such_counts(self):
        for run, hand, (lot, told) in runs_hands_and_lots(163, 1):
            moments = samples.moments_by_definition(run)
            known, possible = counts_known(run, hand, lot), counts_possible(run, hand, lot)
            self.assertEqual(slice_by_definition(run, {m for m in moments if m[hand] in known}),
                             knowing(run, hand, told))
            self.assertEqual(slice_by_definition(run, {m for m in moments if m[hand] in possible}),
                             holding(run, hand, told))

    def test_known_is_so_is_possible_is_known_to_be_known(self):
        for run, hand, (_, told) in runs_hands_and_lots(164, 1):
            known, possible = knowing(run, hand, told), holding(run, hand, told)
            self.assertEqual(known, both(run, known, told))
            self.assertEqual(told, both(run, told, possible))
            self.assertEqual(known, knowing(run, hand, known))
            self.assertEqual(known, holding(run, hand, known))
            self.assertEqual(possible, knowing(run, hand, possible))

    def test_all_and_none(self):
        for run in RUNS + list(LARGE):
            for hand in range(len(run)):
                counts = tuple(range(len(run[hand]) + 1))
                self.assertEqual(counts, knows_at(run, hand, own_slice(run)))
                self.assertEqual(counts, holds_possible(run, hand, own_slice(run)))
                self.assertEqual(own_slice(run), knowing(run, hand, own_slice(run)))
                self.assertEqual((), knows_at(run, hand, None))
                self.assertEqual((), holds_possible(run, hand, None))
                self.assertIsNone(knowing(run, hand, None))
                self.assertIsNone(holding(run, hand, None))
                self.assertEqual(counts[:1], holds_possible(run, hand, begin_slice(run)))
                self.assertEqual(counts[-1:], holds_possible(run, hand, end_slice(run)))

    def test_told(self):
        taken = hand_slice(WRITTEN, 1, (1,))
        self.assertEqual((), knows_at(WRITTEN, 0, taken))
        self.assertEqual((1, 2), holds_possible(WRITTEN, 0, taken))
        self.assertEqual((1,), knows_at(WRITTEN, 1, hand_slice(WRITTEN, 0, (1, 2))))
        self.assertEqual((1, 3), knows_at(ALONE, 0, hand_slice(ALONE, 0, (1, 3))))
        self.assertEqual((0,), knows_at(HANDS_WITHOUT_DEEDS, 2, begin_slice(HANDS_WITHOUT_DEEDS)))
        self.assertEqual((0, 2, 3), knows_at(ASKED, 0, road_slice(ASKED, 0, 1, "most", 0)))

    def test_two_hands_that_both_know(self):
        """Where each of two hands knows the lot at each of its moments, it is all or none."""
        for run in [run for run in TINY if len(run) == 2]:
            for lot in all_lots(run):
                told = slice_by_definition(run, lot)
                if knowing(run, 0, told) == told == knowing(run, 1, told):
                    self.assertIn(told, (None, own_slice(run)))

    def test_refusals(self):
        arguments = [("run", "run", WRITTEN), ("hand", "hand", 0), ("lot", "lot", OWN)]
        for call in (knows_at, holds_possible, knowing, holding, hangs_on_others, learned, forgotten):
            check_call(self, call, arguments)
            check_places(self, call, arguments)
            self.assertIs(NoSlice, type(raised(call, WRITTEN, 0, own_slice(ASKED))))


class Doubt(unittest.TestCase):

    def test_at_each_moment(self):
        for run, hand, (lot, told) in runs_hands_and_lots(165, 1):
            moments = by_count(run, hand)
            known = counts_known(run, hand, lot)
            for moment in samples.moments_by_definition(run):
                found = doubt(run, hand, told, moment)
                self.assertIs(moment[hand] in known, found is None)
                if found is not None:
                    self.assertIn(found, set(moments[moment[hand]]) - lot)

    def test_none_and_own(self):
        for run in RUNS[:20] + list(LARGE):
            for hand in range(len(run)):
                for moment in stands_of(run, way_by(run))[:9]:
                    self.assertIsNone(doubt(run, hand, own_slice(run), moment))
                    self.assertEqual(moment[hand], doubt(run, hand, None, moment)[hand])

    def test_refusals(self):
        arguments = [("run", "run", WRITTEN), ("hand", "hand", 0), ("lot", "lot", OWN), ("moment", "moment", (1, 0))]
        check_call(self, doubt, arguments)
        check_places(self, doubt, arguments)


class HangsOnOthers(unittest.TestCase):

    def test_by_all_moments(self):
        answers = []
        for run, hand, (lot, told) in runs_hands_and_lots(166, 5):
            rows = {}
            for moment in samples.moments_by_definition(run):
                rows.setdefault(moment[:hand] + moment[hand + 1:], []).append(moment in lot)
            hangs = all(len(set(truths)) == 1 for truths in rows.values())
            self.assertIs(hangs, hangs_on_others(run, hand, told), (run, hand, told))
            answers.append(hangs and bool(lot))
        self.assertGreater(answers.count(True), 100)
        self.assertGreater(answers.count(False), 100)

    def test_own_counts_and_others(self):
        for run in RUNS + list(LARGE):
            for hand in range(len(run)):
                self.assertIs(True, hangs_on_others(run, hand, None))
                self.assertIs(True, hangs_on_others(run, hand, own_slice(run)))
                for other in range(len(run)):
                    for counts in ((0,), (len(run[other]),)):
                        if len(run[other]) > 0 and other != hand:
                            self.assertIs(True, hangs_on_others(run, hand, hand_slice(run, other, counts)))
        self.assertIs(False, hangs_on_others(FREE, 0, hand_slice(FREE, 0, (0,))))
        self.assertIs(False, hangs_on_others(FREE, 0, hand_slice(FREE, 0, (1, 2))))
        self.assertIs(True, hangs_on_others(FREE, 0, hand_slice(FREE, 0, (0, 1, 2))))
        for hand in (0, 1):
            self.assertIs(False, hangs_on_others(WRITTEN, hand, road_slice(WRITTEN, 0, 1, "least", 1)))
        self.assertIs(True, hangs_on_others(RELAY, 0, road_slice(RELAY, 1, 2, "least", 1)))
        # The hand's own deed can be neither done nor undone alone where the lot has it.
        run = ((send(1),), (take(0, 0),))
        self.assertIs(True, hangs_on_others(run, 0, hand_slice(run, 1, (1,))))


class LearnedAndForgotten(unittest.TestCase):

    def test_by_all_moments(self):
        several = 0
        for run, hand, (lot, told) in runs_hands_and_lots(167):
            known = counts_known(run, hand, lot)
            steps = range(1, len(run[hand]) + 1)
            told_learned, told_forgotten = learned(run, hand, told), forgotten(run, hand, told)
            self.assertEqual(tuple([c for c in steps if c in known and c - 1 not in known]), told_learned)
            self.assertEqual(tuple([c for c in steps if c not in known and c - 1 in known]), told_forgotten)
            several += len(told_learned) > 0
        self.assertGreater(several, 50)

    def test_by_takes_and_sends_alone(self):
        """Of what hangs on others."""
        many = []
        for run in RUNS + samples.random_runs(168, 30, 16):
            for hand, other in [(one, two) for one in range(len(run)) for two in range(len(run)) if one != two]:
                for count in range(len(run[other]) + 1):
                    for counts in (range(count), range(count, len(run[other]) + 1), (count,)):
                        lot = hand_slice(run, other, tuple(counts))
                        self.assertIs(True, hangs_on_others(run, hand, lot))
                        many += [run[hand][at - 1][0][:1] + ("learned",) for at in learned(run, hand, lot)]
                        many += [run[hand][at - 1][0][:1] + ("forgotten",) for at in forgotten(run, hand, lot)]
        self.assertEqual({("take", "learned"), ("send", "forgotten")}, set(many))
        self.assertGreater(many.count(("take", "learned")), 50)
        self.assertGreater(many.count(("send", "forgotten")), 50)

    def test_told(self):
        sent = hand_slice(RELAY, 0, (2, 3))
        self.assertEqual((2,), learned(RELAY, 1, sent))
        self.assertEqual((2,), learned(RELAY, 2, sent))
        self.assertEqual((), forgotten(RELAY, 1, sent))
        self.assertEqual((3,), forgotten(RELAY, 1, hand_slice(RELAY, 2, (0, 1))))
        self.assertEqual((2,), learned(RELAY, 0, sent))
        self.assertEqual((1, 3), learned(ALONE, 0, hand_slice(ALONE, 0, (1, 3))))
        self.assertEqual((2,), forgotten(ALONE, 0, hand_slice(ALONE, 0, (1, 3))))
        self.assertEqual((), learned(ALONE, 0, hand_slice(ALONE, 0, (0,))))
        for hand in range(3):
            self.assertEqual((), learned(HANDS_WITHOUT_DEEDS, hand, own_slice(HANDS_WITHOUT_DEEDS)))
            self.assertEqual((), forgotten(HANDS_WITHOUT_DEEDS, hand, own_slice(HANDS_WITHOUT_DEEDS)))


class SixHandsAnd48Deeds(unittest.TestCase):

    def test_what_letters_bring(self):
        run = samples.BUSY
        for count in range(1, 13):
            done = hand_slice(run, 0, tuple(range(count, 13)))
            known = tuple([at for at in range(13) if low_at(run, 1, at)[0] >= count])
            self.assertEqual(known, knows_at(run, 1, done))
            self.assertEqual(known[:1] if known and known[0] > 0 else (), learned(run, 1, done))
            self.assertEqual((), forgotten(run, 1, done))
            self.assertIs(True, hangs_on_others(run, 1, done))
            self.assertEqual((), knows_at(run, 2, done))
            self.assertEqual(tuple(range(13)), holds_possible(run, 2, done))

    def test_stands_of_a_way(self):
        for run in LARGE:
            stands = stands_of(run, way_by(run))
            lot = spanned(run, stands[5:20])
            for hand in range(len(run)):
                counts = tuple(sorted({stand[hand] for stand in stands[5:20]}))
                self.assertEqual(counts, holds_possible(run, hand, lot))
                self.assertIs(True, is_slice(run, knowing(run, hand, lot)))
                self.assertIs(True, is_slice(run, holding(run, hand, lot)))
                for stand in stands:
                    found = doubt(run, hand, lot, stand)
                    self.assertIs(stand[hand] in knows_at(run, hand, lot), found is None)
                    if found is not None:
                        self.assertEqual(stand[hand], found[hand])
                        self.assertIs(False, is_in(run, lot, found))

    def test_asked_again(self):
        lot = hand_slice(RELAY, 0, (2, 3))
        before = repr((RELAY, lot))
        for call in (knows_at, holds_possible, knowing, holding, hangs_on_others, learned, forgotten):
            self.assertEqual(call(RELAY, 1, lot), call(lot=lot, hand=1, run=RELAY))
        self.assertEqual(doubt(RELAY, 1, lot, (0, 0, 0)), doubt(moment=(0, 0, 0), lot=lot, hand=1, run=RELAY))
        self.assertEqual(low_at(RELAY, 1, 2), low_at(count=2, hand=1, run=RELAY))
        self.assertEqual(before, repr((RELAY, lot)))


if __name__ == "__main__":
    unittest.main()

"""The greatest and the least of a sum over a slice, each with a flow."""

import itertools
import random
import unittest

from mighthave.errors import NoSlice, NoSum
from mighthave.lots.plain import begin_slice, end_slice, hand_slice, road_slice
from mighthave.lots.slices import own_slice, spanned
from mighthave.run.ways import stands_of, way_by
from mighthave.say.told import slice_of
from mighthave.sums.flows import greatest_of, least_of, shows_greatest, shows_least
from mighthave.sums.sums import sum_at
from tests import samples
from tests.definitions import all_lots, moments_by_definition, random_saying, slice_by_definition
from tests.refusals import check_anything, check_call, check_places, raised
from tests.samples import ASKED, DO, ODD, WRITTEN, do, send, take
from tests.summed import is_paper_by_definition, papers_otherwise, random_sum, sum_by_definition
from tests.walked import TINY, drawn_lots, knots_by_definition, otherwise

RUNS = list(samples.SMALL) + samples.random_runs(211, 40, 10)
LARGE = (samples.MANY, samples.LONG, samples.BUSY)
# Each def with the paper's judge and its sign.
SIDES = ((greatest_of, shows_greatest, 1, max), (least_of, shows_least, -1, min))
# Hand 1 takes a letter ahead of what it gains; hand 0 loses ahead of sending it, and gains behind.
TRADE = (
    (do(("a", 9)), send(1, ("a", 4)), do(("a", 6)), do(("a", 0))),
    (take(0, 1), do(("b", 3)), do(("b", 8)), do(("b", 2))),
)
BOTH = ((0, "a", 1), (1, "b", 1))


def with_sets(rng, run):
    """The run with each deed setting something, so that sums go up and down."""
    return tuple([tuple([(act, samples.random_sets(rng) or (("a", rng.randint(0, 5)),)) for act, _ in row])
                  for row in run])


def cases(seed, runs, many=3, most=3):
    """Rows of a run, a lot of it, its slice, and a sum; of each run lots of all kinds."""
    rng = random.Random(seed)
    for run in runs:
        lots = [set(lot) for lot in drawn_lots(rng, run, many)]
        for lot in rng.sample(lots, min(len(lots), most + 2)):
            told = slice_by_definition(run, lot)
            yield run, lot, told, random_sum(rng, run)
            yield run, lot, told, random_sum(rng, run, (-1, 1, 2), 3)


def trading(seed, many, most=4):
    """As cases, of runs that set something by each deed."""
    rng = random.Random(seed)
    runs = [with_sets(rng, run) for run in samples.random_runs(seed, many, 9)]
    return cases(seed, [TRADE] + runs, 3, most)


class ByAllMoments(unittest.TestCase):

    def check(self, run, lot, told, total):
        papers = []
        for tell, shows, sign, best in SIDES:
            paper = tell(run, told, total)
            papers.append(paper)
            self.assertIs(True, is_paper_by_definition(run, lot, total, sign, paper), (run, told, total, paper))
            self.assertIs(True, shows(run, told, total, paper), (run, told, total, paper))
            if lot:
                self.assertEqual(best([sum_by_definition(run, total, moment) for moment in lot]), paper[0])
                self.assertEqual(sum_at(run, total, paper[1]), paper[0])
                self.assertIs(int, type(paper[0]))
        return papers

    def test_drawn_lots(self):
        flows = []
        for run, lot, told, total in itertools.chain(cases(212, RUNS), trading(213, 80)):
            for paper in self.check(run, lot, told, total):
                flows.append(len(paper[2]) if paper else None)
        for many in (None, 0, 1, 2, 3):
            self.assertGreater(flows.count(many), 20, many)

    def test_all_lots_of_tiny_runs(self):
        rng = random.Random(214)
        for run in [with_sets(rng, run) for run in TINY]:
            for lot in all_lots(run):
                self.check(run, lot, slice_by_definition(run, lot), random_sum(rng, run))

    def test_knots_and_barred_deeds(self):
        knots, barred = 0, 0
        for run, lot, told, total in trading(215, 60):
            if lot:
                knots += len(knots_by_definition(run, lot)) > 0
                barred += any(None in row for row in told[1])
                self.check(run, lot, told, total)
        self.assertGreater(min(knots, barred), 30)

    def test_lots_of_sayings(self):
        rng = random.Random(216)
        for run in [with_sets(rng, run) for run in RUNS if len(moments_by_definition(run)) < 40]:
            for _ in range(4):
                saying = random_saying(rng, run, 3, 6)
                told = slice_of(run, saying)
                lot = {moment for moment in moments_by_definition(run) if is_in_slice(told, moment)}
                self.check(run, lot, told, random_sum(rng, run))

    def test_slices_of_each_kind(self):
        rng = random.Random(217)
        for run in [with_sets(rng, run) for run in RUNS]:
            moments = set(moments_by_definition(run))
            begin, end = min(moments, key=sum), max(moments, key=sum)
            kinds = [(moments, own_slice(run)), ({begin}, begin_slice(run)), ({end}, end_slice(run)), (set(), None)]
            hand = rng.randrange(len(run))
            counts = tuple(range(0, len(run[hand]) + 1, 2))
            kinds.append(({each for each in moments if each[hand] in counts}, hand_slice(run, hand, counts)))
            for lot, told in kinds:
                self.check(run, lot, told, random_sum(rng, run))

    def test_told(self):
        own = own_slice(TRADE)
        self.assertEqual([0, 9, 4, 6, 0], [sum_at(TRADE, BOTH[:1], (count, 0)) for count in range(5)])
        self.assertEqual((14, (3, 3)), greatest_of(TRADE, own, BOTH)[:2])
        # Gains: 9, -5, 2, -6 and 0, 3, 5, -6; what hand 1 gains can't be had without the loss of 5.
        self.assertEqual(5, sum([amount for _, _, amount in greatest_of(TRADE, own, BOTH)[2]]))
        self.assertEqual((0, (0, 0), ()), greatest_of(TRADE, begin_slice(TRADE), BOTH))
        self.assertEqual((2, (4, 4), ()), least_of(TRADE, end_slice(TRADE), BOTH))
        self.assertEqual((0, (0, 0)), least_of(TRADE, own, BOTH)[:2])
        for call in (greatest_of, least_of):
            self.assertIsNone(call(TRADE, None, BOTH))
            self.assertIsNone(call(WRITTEN, None, BOTH))

    def test_letters_keep_from_waiting(self):
        """What one hand gains by a letter that another one sends at a loss is had where it is more."""
        for loss, gain in ((3, 5), (5, 3), (4, 4)):
            run = ((do(("a", 9)), send(1, ("a", 9 - loss))), (take(0, 1, ("b", gain)),))
            number, moment, flow = greatest_of(run, own_slice(run), BOTH)
            self.assertEqual(max(9, 9 - loss + gain), number)
            self.assertEqual(((1, 0), (0, 1), min(loss, gain)), flow[-1])
            self.assertIs(True, moment in ((1, 0), (2, 1)) and sum_at(run, BOTH, moment) == number)


def is_in_slice(told, moment):
    if told is None:
        return False
    least, firsts = told
    lasts = [firsts[hand][count - 1] for hand, count in enumerate(moment) if count]
    above = [least] + lasts
    return all(each is not None and all(map(int.__le__, each, moment)) for each in above)


class Shown(unittest.TestCase):

    def check(self, run, lot, told, total, thing):
        """The program and the judge say the same, of the greatest and of the least."""
        answers = []
        for _, shows, sign, _ in SIDES:
            right = is_paper_by_definition(run, lot, total, sign, thing)
            self.assertIs(right, shows(run, told, total, thing), (shows.__name__, run, told, total, thing))
            answers.append(right)
        return answers

    def test_papers_otherwise(self):
        rng = random.Random(221)
        answers = []
        for run, lot, told, total in itertools.chain(cases(222, RUNS, 3, 1), trading(223, 40, 1)):
            for tell, _, _, _ in SIDES:
                paper = tell(run, told, total)
                if paper is not None:
                    for thing in papers_otherwise(rng, run, lot, paper):
                        answers.append(self.check(run, lot, told, total, thing))
                for _ in range(10):
                    answers.append(self.check(run, lot, told, total, otherwise(rng, run, paper)))
        for side in (0, 1):
            found = [answer[side] for answer in answers]
            self.assertGreater(found.count(True), 200)
            self.assertGreater(found.count(False), 5000)

    def test_all_flows_of_a_small_run(self):
        """Two givers that reach two takers: each amount from 0 to 4, each moment, each number near."""
        run = ((do(("a", 3)), do(("a", 1)), do(("a", 4))), (do(("b", 2)), do(("b", 0)), do(("b", 1))))
        lot = set(moments_by_definition(run))
        told = own_slice(run)
        pairs = (((0, 2), (0, 1)), ((1, 2), (1, 1)), ((0, 0), (0, 1)), ((0, 2), (1, 1)))
        flows = []
        for amounts in itertools.product(range(4), repeat=4):
            flows.append(tuple(sorted([pair + (amount,) for pair, amount in zip(pairs, amounts) if amount])))
        right = []
        for flow in flows:
            for moment in sorted(lot):
                thing = (sum_at(run, BOTH, moment), moment, flow)
                if self.check(run, lot, told, BOTH, thing)[0]:
                    right.append(thing)
        self.assertEqual({greatest_of(run, told, BOTH)[0]}, {number for number, _, _ in right})
        self.assertIn(greatest_of(run, told, BOTH), right)

    def test_amounts_below_one(self):
        """Rows of 0, and rows below 0 that others make up for, give as much in all: they are none."""
        run = ((send(1), do(("a", 9)), send(1, ("a", 5)), do(("a", 2))), (take(0, 2, ("b", 9)), do(("b", 20))))
        told, total = own_slice(run), ((0, "a", 1), (1, "b", 1))
        lot = set(moments_by_definition(run))
        pairs = (((1, 0), (0, 2)), ((1, 1), (0, 2)))
        right = []
        for amounts in itertools.product((None, -5, -1, 0, 1, 3, 4, 5, 9), repeat=2):
            flow = tuple([pair + (amount,) for pair, amount in zip(pairs, amounts) if amount is not None])
            if self.check(run, lot, told, total, greatest_of(run, told, total)[:2] + (flow,))[0]:
                right.append(amounts)
        self.assertEqual({(None, 4), (1, 3), (3, 1), (4, None)}, set(right))

    def test_another_moment_with_the_same_worth(self):
        run = ((do(("a", 2)), do(("b", 1)), do(("a", 2))), (DO, DO))
        total = ((0, "a", 1),)
        told = own_slice(run)
        for moment in moments_by_definition(run):
            self.assertIs(moment[0] > 0, shows_greatest(run, told, total, (2, moment, ())))
            self.assertIs(moment[0] == 0, shows_least(run, told, total, (0, moment, ())))

    def test_another_flow(self):
        """One loss that two gains can't be had without: either gives."""
        run = ((send(1), do(("a", 4)), send(1, ("a", 2))), (take(0, 2, ("b", 1)), do(("b", 2)), do(("b", 3))))
        told, total = own_slice(run), ((0, "a", 1), (1, "b", 1))
        rights = [(((1, 0), (0, 2), 1), ((1, 1), (0, 2), 1)), (((1, 0), (0, 2), 1), ((1, 2), (0, 2), 1)),
                  (((1, 1), (0, 2), 1), ((1, 2), (0, 2), 1))]
        for flow in rights:
            self.assertIs(True, shows_greatest(run, told, total, (5, (3, 3), flow)), flow)
            self.assertIs(False, shows_greatest(run, told, total, (5, (3, 3), flow[::-1])), flow)
            self.assertIs(False, shows_greatest(run, told, total, (5, (3, 3), flow[:1])), flow)
            self.assertIs(False, shows_greatest(run, told, total, (5, (3, 3), flow + flow[1:])), flow)
        for flow in ((((1, 0), (0, 2), 2),), (((0, 1), (0, 2), 2),), (((0, 2), (1, 0), 1), ((0, 2), (1, 1), 1)),
                     (((1, 0), (0, 2), 1), ((1, 1), (0, 2), 1), ((1, 2), (0, 2), 1)), (), (((1, 0), (0, 0), 2),)):
            self.assertIs(False, shows_greatest(run, told, total, (5, (3, 3), flow)), flow)
        self.assertIs(False, shows_least(run, told, total, (5, (3, 3), rights[0])))

    def test_deeds_of_the_least_and_barred_ones(self):
        run = ((do(("a", 5)), do(("a", 1)), do(("a", 3)), do(("a", 0)), do(("a", 9))), (DO,))
        total = ((0, "a", 1),)
        told = spanned(run, ((2, 0), (3, 1), (4, 1)))
        self.assertEqual((3, (3, 1), ()), greatest_of(run, told, total))
        self.assertEqual(0, least_of(run, told, total)[0])
        flow = (((0, 3), (0, 2), 2),)
        self.assertIs(True, shows_least(run, told, total, (0, (4, 1), flow)))
        for row in (((0, 3), (0, 0), 2), ((0, 1), (0, 2), 2), ((0, 4), (0, 3), 1), ((0, 3), (0, 4), 2)):
            self.assertIs(False, shows_least(run, told, total, (0, (4, 1), (row,))), row)
        self.assertIs(False, shows_least(run, told, total, (1, (2, 0), ())))
        for flow in ((((0, 0), (0, 1), 4),), (((0, 4), (0, 3), 3),), (((0, 2), (0, 1), 2),)):
            self.assertIs(False, shows_greatest(run, told, total, (3, (3, 1), flow)), flow)

    def test_the_greatest_for_the_least(self):
        told = own_slice(TRADE)
        greatest, least = greatest_of(TRADE, told, BOTH), least_of(TRADE, told, BOTH)
        self.assertEqual([True, False], self.check(TRADE, set(moments_by_definition(TRADE)), told, BOTH, greatest))
        self.assertEqual([False, True], self.check(TRADE, set(moments_by_definition(TRADE)), told, BOTH, least))

    def test_none(self):
        for run in RUNS:
            for _, shows, _, _ in SIDES:
                total = ((0, "a", 1),)
                self.assertIs(True, shows(run, None, total, None))
                self.assertIs(False, shows(run, own_slice(run), total, None))
                for thing in ((0, (0,) * len(run), ()), (), 0, False, (None,), (None, None, None), [], ""):
                    self.assertIs(False, shows(run, None, total, thing))

    def test_of_anything(self):
        run = WRITTEN
        for lot in (own_slice(run), road_slice(run, 0, 1, "just", 1)):
            for _, shows, _, _ in SIDES:
                check_anything(self, shows, run, lot, ((0, "x", 1),))
                for odd in ODD:
                    for thing in ((odd, (0, 0), ()), (0, odd, ()), (0, (0, 0), odd), (0, (0, 0), (odd,)),
                                  (0, (0, 0), ((odd, (0, 0), 1),)), (0, (0, 0), (((0, 0), odd, 1),)),
                                  (3, (1, 0), (((0, 0), (0, 0), odd),)), (odd, odd, odd)):
                        before = repr(thing)
                        self.assertIs(bool, type(shows(run, lot, ((0, "x", 1),), thing)), thing)
                        self.assertEqual(before, repr(thing))
        self.assertIs(True, shows_greatest(thing=None, total=((0, "a", 1),), lot=None, run=WRITTEN))


class SixHandsAnd48Deeds(unittest.TestCase):

    def test_very_many_moments(self):
        rng = random.Random(231)
        for run in [with_sets(rng, run) for run in LARGE]:
            stands = spanned(run, stands_of(run, way_by(run)))
            half = slice_of(run, ("all", tuple([("hand", hand, ("done", 3)) for hand in range(min(4, len(run)))])))
            for told in (own_slice(run), stands, half):
                for _ in range(8):
                    total = random_sum(rng, run)
                    numbers = []
                    for tell, shows, sign, best in SIDES:
                        paper = tell(run, told, total)
                        self.assertIs(True, shows(run, told, total, paper))
                        self.assertIs(False, shows(run, told, total, (paper[0] + sign,) + paper[1:]))
                        self.assertEqual(paper[0], sum_at(run, total, paper[1]))
                        numbers.append(paper[0])
                        if told == stands:
                            moments = stands_of(run, way_by(run))
                            self.assertEqual(best([sum_at(run, total, moment) for moment in moments]), paper[0])
                    for moment in [stand for stand in stands_of(run, way_by(run)) if min(stand) >= 3]:
                        self.assertTrue(numbers[1] <= sum_at(run, total, moment) <= numbers[0])


class Refusals(unittest.TestCase):

    def test_each_argument(self):
        arguments = [("run", "run", WRITTEN), ("lot", "lot", own_slice(WRITTEN)), ("total", "total", ((0, "x", 1),))]
        for tell, shows, _, _ in SIDES:
            check_call(self, tell, arguments)
            check_places(self, tell, arguments)
            check_call(self, lambda run, lot, total: shows(run, lot, total, []), arguments)
            self.assertIs(NoSlice, type(raised(tell, WRITTEN, own_slice(ASKED), ((0, "x", 1),))))
            self.assertIs(NoSum, type(raised(shows, WRITTEN, None, ((2, "x", 1),), None)))

    def test_asked_again(self):
        for run, _, told, total in trading(232, 10, 1):
            before = repr((run, told, total))
            for tell, shows, _, _ in SIDES:
                paper = tell(run, told, total)
                self.assertEqual(paper, tell(total=total, lot=told, run=run))
                self.assertIs(True, shows(thing=paper, total=total, lot=told, run=run))
            self.assertEqual(before, repr((run, told, total)))


if __name__ == "__main__":
    unittest.main()

"""Moments, pasts, chains, letters under way."""

import itertools
import random
import unittest

from mighthave.errors import NoHand, NoMoment, NoPlace
from mighthave.run.pasts import begin_of, chain_of, end_of, has, is_below, is_known, is_moment, join, meet
from mighthave.run.pasts import past_of, shows_chain, under_way
from tests import samples
from tests.refusals import NO_MOMENTS, check_anything, check_call, check_places, raised
from tests.samples import ASKED, CROSSED, DO, EMPTY, FREE, RELAY, WRITTEN, send, take

RUNS = list(samples.SMALL) + samples.random_runs(11, 40, 9)


class Moments(unittest.TestCase):

    def test_begin_and_end(self):
        self.assertEqual((0,), begin_of(EMPTY))
        self.assertEqual((0,), end_of(EMPTY))
        self.assertEqual((0, 0, 0), begin_of(FREE))
        self.assertEqual((2, 1, 3), end_of(FREE))
        self.assertEqual((8,) * 6, end_of(samples.MANY))

    def test_just_those_of_the_definition(self):
        for run in RUNS:
            found = samples.moments_by_definition(run)
            for counts in itertools.product(*[range(-1, len(row) + 2) for row in run]):
                self.assertIs(counts in found, is_moment(run, counts), (run, counts))
            self.assertTrue(is_moment(run, begin_of(run)))
            self.assertTrue(is_moment(run, end_of(run)))

    def test_no_moments(self):
        for thing in NO_MOMENTS:
            self.assertIs(False, is_moment(WRITTEN, thing), thing)
        for thing in ((0, 0), (1, 0), (2, 0), (1, 1), (2, 1)):
            self.assertIs(True, is_moment(WRITTEN, thing))
        check_anything(self, is_moment, WRITTEN)
        check_anything(self, is_moment, EMPTY)

    def test_refusals(self):
        arguments = [("run", "run", WRITTEN)]
        for call in (begin_of, end_of):
            check_call(self, call, arguments)
            check_places(self, call, arguments)
        check_places(self, is_moment, [("run", "run", WRITTEN), ("thing", "", (1, 0))])
        for bad in (None, (), [WRITTEN], ((send(0),),)):
            self.assertEqual("NoRun", type(raised(is_moment, bad, (0, 0))).__name__)
            self.assertEqual("NoRun", type(raised(is_moment, thing=None, run=bad)).__name__)


class BelowMeetJoin(unittest.TestCase):

    def test_by_definition(self):
        for run in samples.SMALL:
            found = samples.moments_by_definition(run)
            for one, other in itertools.product(found, found):
                self.assertIs(samples.below(one, other), is_below(run, one, other))
                lesser, greater = meet(run, one, other), join(run, one, other)
                self.assertEqual(tuple(map(min, one, other)), lesser)
                self.assertEqual(tuple(map(max, one, other)), greater)
                self.assertIn(lesser, found)
                self.assertIn(greater, found)

    def test_plain(self):
        self.assertIs(True, is_below(FREE, (1, 0, 2), (1, 0, 2)))
        self.assertIs(True, is_below(FREE, (1, 0, 2), (1, 1, 3)))
        self.assertIs(False, is_below(FREE, (1, 1, 2), (2, 0, 3)))
        self.assertEqual((1, 0, 1), meet(FREE, (1, 1, 1), (2, 0, 3)))
        self.assertEqual((2, 1, 3), join(FREE, (1, 1, 1), (2, 0, 3)))

    def test_refusals(self):
        arguments = [("run", "run", WRITTEN), ("one", "moment", (1, 0)), ("other", "moment", (2, 1))]
        for call in (is_below, meet, join):
            check_call(self, call, arguments)
            check_places(self, call, arguments)
            self.assertIs(NoMoment, type(raised(call, WRITTEN, (0, 0), (0, 1))))


class Has(unittest.TestCase):

    def test_by_counts(self):
        self.assertIs(False, has(WRITTEN, (0, 0), (0, 0)))
        self.assertIs(True, has(WRITTEN, (1, 0), (0, 0)))
        self.assertIs(False, has(WRITTEN, (1, 0), (0, 1)))
        self.assertIs(False, has(WRITTEN, (2, 0), (1, 0)))
        for run in samples.SMALL:
            for moment in samples.moments_by_definition(run):
                had = [deed for deed in samples.places(run) if has(run, moment, deed)]
                self.assertEqual(sum(moment), len(had))
                self.assertTrue(all(place < moment[hand] for hand, place in had))

    def test_refusals(self):
        arguments = [("run", "run", WRITTEN), ("moment", "moment", (1, 0)), ("deed", "deed", (1, 0))]
        check_call(self, has, arguments)
        check_places(self, has, arguments)


class Pasts(unittest.TestCase):

    def test_plain(self):
        self.assertEqual((1, 0), past_of(WRITTEN, (0, 0)))
        self.assertEqual((2, 0), past_of(WRITTEN, (0, 1)))
        self.assertEqual((1, 1), past_of(WRITTEN, (1, 0)))
        self.assertEqual((2, 3, 2), past_of(RELAY, (2, 1)))
        self.assertEqual((2, 1, 0), past_of(CROSSED, (1, 0)))

    def test_least_moment_with_the_deed(self):
        for run in RUNS:
            found = samples.moments_by_definition(run)
            for hand, place in samples.places(run):
                past = past_of(run, (hand, place))
                having = [moment for moment in found if place < moment[hand]]
                self.assertIn(past, having)
                self.assertTrue(all(samples.below(past, moment) for moment in having))

    def test_a_long_run(self):
        self.assertEqual((12, 12, 0, 0), past_of(samples.BUSY, (0, 11)))
        self.assertEqual((11, 12, 0, 0), past_of(samples.BUSY, (1, 11)))

    def test_refusals(self):
        arguments = [("run", "run", WRITTEN), ("deed", "deed", (1, 0))]
        check_call(self, past_of, arguments)
        check_places(self, past_of, arguments)


class Known(unittest.TestCase):

    def test_plain(self):
        self.assertIs(True, is_known(WRITTEN, (0, 0), (0, 0)))
        self.assertIs(True, is_known(WRITTEN, (0, 0), (0, 1)))
        self.assertIs(False, is_known(WRITTEN, (0, 1), (0, 0)))
        self.assertIs(True, is_known(WRITTEN, (0, 0), (1, 0)))
        self.assertIs(False, is_known(WRITTEN, (0, 1), (1, 0)))
        self.assertIs(True, is_known(RELAY, (0, 0), (2, 2)))

    def test_just_where_a_chain_leads(self):
        for run in RUNS:
            pairs = samples.known_pairs(run)
            for deed, other in itertools.product(samples.places(run), repeat=2):
                self.assertIs((deed, other) in pairs, is_known(run, deed, other))

    def test_refusals(self):
        arguments = [("run", "run", WRITTEN), ("deed", "deed", (0, 0)), ("other", "deed", (1, 0))]
        for call in (is_known, chain_of):
            check_call(self, call, arguments)
            check_places(self, call, arguments)
            error = raised(call, WRITTEN, (0, 0), (1, 1))
            self.assertIs(NoPlace, type(error))
            self.assertEqual((1, 1), error.deed)


def is_chain_by_definition(run, deed, other, thing):
    if thing is None or len(thing) == 0 or thing[0] != deed or thing[-1] != other:
        return False
    return set(zip(thing, thing[1:])) <= samples.links(run)


class Chains(unittest.TestCase):

    def test_told_where_known(self):
        for run in RUNS:
            pairs = samples.known_pairs(run)
            for deed, other in itertools.product(samples.places(run), repeat=2):
                chain = chain_of(run, deed, other)
                self.assertIs((deed, other) in pairs, chain is not None)
                self.assertIs(chain is not None, is_chain_by_definition(run, deed, other, chain))
                self.assertIs(chain is not None, shows_chain(run, deed, other, chain))

    def test_plain(self):
        self.assertEqual(((0, 1),), chain_of(WRITTEN, (0, 1), (0, 1)))
        self.assertEqual(((0, 0), (1, 0)), chain_of(WRITTEN, (0, 0), (1, 0)))
        self.assertIsNone(chain_of(WRITTEN, (0, 1), (1, 0)))
        self.assertIsNone(chain_of(WRITTEN, (1, 0), (0, 0)))
        self.assertEqual(
            ((0, 0), (0, 1), (1, 1), (1, 2), (2, 1), (2, 2)), chain_of(RELAY, (0, 0), (2, 2)))

    def test_each_row_is_judged(self):
        for run in (WRITTEN, ASKED, ((send(1), send(1)), (take(0, 0), take(0, 1)))):
            found = samples.places(run)
            rows = [row for many in range(5) for row in itertools.product(found, repeat=many)]
            for deed, other in itertools.product(found, repeat=2):
                for row in rows if len(found) < 5 else rows[::7]:
                    self.assertIs(is_chain_by_definition(run, deed, other, row), shows_chain(run, deed, other, row))

    def test_any_chain_is_right(self):
        run = ((send(1), send(1)), (take(0, 0), take(0, 1)))
        self.assertIs(True, shows_chain(run, (0, 0), (1, 1), ((0, 0), (0, 1), (1, 1))))
        self.assertIs(True, shows_chain(run, (0, 0), (1, 1), ((0, 0), (1, 0), (1, 1))))
        self.assertIs(False, shows_chain(run, (0, 0), (1, 1), ((0, 0), (1, 1))))

    def test_no_chains(self):
        for thing in (None, (), ((0, 0),), ((1, 0),), [(0, 0), (1, 0)], ([0, 0], (1, 0)), ((0, 0), [1, 0]),
                      ((False, 0), (1, 0)), ((0, 0), (True, 0)), ((0, False), (1, 0)), ((0, 0), (0, 0), (1, 0)),
                      ((0, 0), (1, 0), (1, 0)), ((0, 0), None, (1, 0)), ((0, 0), (2, 0), (1, 0)), (0, 0),
                      ((0, 0), (1, 0), None), ((1, 0), (0, 0)), ((0, 0), (0, 1), (1, 0)), "", {}, 0, True):
            self.assertIs(False, shows_chain(WRITTEN, (0, 0), (1, 0), thing), thing)
        self.assertIs(True, shows_chain(WRITTEN, (0, 0), (1, 0), ((0, 0), (1, 0))))
        self.assertIs(False, shows_chain(WRITTEN, (0, 1), (1, 0), None))
        self.assertIs(False, shows_chain(WRITTEN, (0, 0), (0, 0), ((0, 0), (0, 0))))
        self.assertIs(True, shows_chain(WRITTEN, (0, 0), (0, 0), ((0, 0),)))
        check_anything(self, shows_chain, WRITTEN, (0, 0), (1, 0))

    def test_shows_chain_refuses_as_chain_of(self):
        good = {"run": WRITTEN, "deed": (0, 0), "other": (1, 0), "thing": None}
        bads = (("run", ((),) * 7, "NoRun"), ("deed", (2, 0), "NoPlace"), ("other", None, "NoPlace"))
        for name, bad, refusal in bads:
            self.assertEqual(refusal, type(raised(shows_chain, **{**good, name: bad})).__name__)
        error = raised(shows_chain, **{**good, "deed": (0, 2), "other": (1, 1)})
        self.assertEqual((0, 2), error.deed)
        self.assertIs(True, shows_chain(thing=((0, 0),), other=(0, 0), deed=(0, 0), run=WRITTEN))
        arguments = [("run", "run", WRITTEN), ("deed", "deed", (0, 0)), ("other", "deed", (1, 0))]
        check_call(self, shows_this_chain, arguments)


def shows_this_chain(run, deed, other):
    return shows_chain(run, deed, other, ((0, 0), (1, 0)))


class UnderWay(unittest.TestCase):

    def test_plain(self):
        self.assertEqual(0, under_way(CROSSED, 0, 1, (0, 0, 0)))
        self.assertEqual(1, under_way(CROSSED, 0, 1, (1, 0, 0)))
        self.assertEqual(2, under_way(CROSSED, 0, 1, (2, 0, 0)))
        self.assertEqual(1, under_way(CROSSED, 0, 1, (2, 1, 0)))
        self.assertEqual(0, under_way(CROSSED, 0, 1, (2, 2, 0)))
        self.assertEqual(1, under_way(CROSSED, 0, 1, (4, 3, 2)))
        self.assertEqual(1, under_way(CROSSED, 0, 2, (4, 3, 2)))
        self.assertEqual(0, under_way(CROSSED, 1, 0, (4, 3, 2)))
        self.assertEqual(0, under_way(CROSSED, 2, 1, (4, 3, 2)))

    def test_by_definition(self):
        for run in RUNS:
            for one, other in itertools.permutations(range(len(run)), 2):
                for moment in samples.moments_by_definition(run):
                    many = under_way(run, one, other, moment)
                    self.assertEqual(samples.under_way_by_definition(run, one, other, moment), many)
                    self.assertGreaterEqual(many, 0)

    def test_refusals(self):
        arguments = [("run", "run", WRITTEN), ("one", "hand", 0), ("other", "hand", 1), ("moment", "moment", (1, 0))]
        check_call(self, under_way, arguments)
        check_places(self, under_way, arguments)

    def test_no_road_to_oneself(self):
        for hand in (0, 1):
            error = raised(under_way, WRITTEN, hand, hand, (0, 1))
            self.assertIs(NoHand, type(error))
            self.assertEqual(hand, error.hand)
        error = raised(under_way, EMPTY, 0, 0, (0,))
        self.assertIs(NoHand, type(error))
        error = raised(under_way, WRITTEN, 2, 2, (0, 0))
        self.assertEqual(2, error.hand)


class Alike(unittest.TestCase):

    def test_same_question_same_answer(self):
        rng = random.Random(12)
        for run in samples.random_runs(13, 30, 15):
            found = samples.places(run)
            if found:
                deed, other = rng.choice(found), rng.choice(found)
                self.assertEqual(chain_of(run, deed, other), chain_of(run, deed, other))

    def test_deeds_without_letters(self):
        run = ((DO, DO), (DO,))
        self.assertEqual(((0, 0), (0, 1)), chain_of(run, (0, 0), (0, 1)))
        self.assertIsNone(chain_of(run, (0, 0), (1, 0)))


if __name__ == "__main__":
    unittest.main()

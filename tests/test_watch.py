"""Watches: deeds heard in many orders, the token, its letters, the least moment told."""

import random
import unittest

from mighthave.errors import Heard, NoHand, NoNumber, NoTests, Unfit
from mighthave.watch.watch import Watch
from tests import samples
from tests.definitions import holds_by_definition, moments_by_definition
from tests.refusals import NO_DEEDS, NO_HEARD_PLACES, NO_TESTS_ROWS, check_call, check_places, raised
from tests.samples import ASKED, DO, ODD, RELAY, WRITTEN, below, do, known_pairs, places, send, take
from tests.test_must import ALWAYS, FIRST, NEVER, drawn_tests
from tests.walked import least_of

RUNS = list(samples.SMALL) + samples.random_runs(311, 60, 9)
LARGE = (samples.MANY, samples.LONG, samples.BUSY)
DONE = ("done", 1)


class Plain:
    """[29] word for word, by what is known to what in the whole run."""

    def __init__(self, run, tests):
        self.run = run
        self.tests = tests
        self.known = known_pairs(run)
        self.heard = set()
        self.front = (0,) * len(run)
        self.letters = 0
        self.told = None
        wanting = [hand for hand, _ in tests if not self.is_so(hand)]
        self.token = wanting[0] if wanting else None
        if not wanting:
            self.told = self.front

    def is_so(self, hand):
        return holds_by_definition(self.run[hand], self.front[hand], dict(self.tests)[hand])

    def stands(self, deed):
        return all(one in self.heard for one, other in self.known if other == deed) and deed in self.heard

    def past(self, deed):
        has = [one for one, other in self.known if other == deed]
        return tuple([max([place + 1 for each, place in has if each == hand], default=0)
                      for hand in range(len(self.run))])

    def hear(self, deed):
        self.heard.add(deed)
        while self.told is None:
            hand = self.token
            if self.is_so(hand):
                self.pass_on()
            elif self.stands((hand, self.front[hand])):
                self.front = tuple(map(max, self.front, self.past((hand, self.front[hand]))))
            else:
                return

    def pass_on(self):
        hands = [hand for hand, _ in self.tests]
        at = hands.index(self.token)
        for hand in hands[at + 1:] + hands[:at]:
            if not self.is_so(hand):
                self.token = hand
                self.letters += 1
                return
        self.told = self.front
        self.token = None


def drawn_order(rng, run):
    """All deeds, in an order of all, of few exchanges, or of their hands, the last ones ahead or not."""
    deeds = places(run)
    kind = rng.choice(("any", "any", "rows", "backwards", "near"))
    if kind == "any":
        rng.shuffle(deeds)
    if kind == "backwards":
        deeds.reverse()
    if kind == "near":
        for _ in range(4):
            if len(deeds) > 1:
                at = rng.randrange(len(deeds) - 1)
                deeds[at], deeds[at + 1] = deeds[at + 1], deeds[at]
    return deeds


def deed_at(run, deed):
    return run[deed[0]][deed[1]]


def state(watch, hands):
    stands = [[watch.stands(hand, place) for place in range(12)] for hand in range(hands)]
    return (watch.told(), watch.front(), watch.token(), watch.letters(), stands, len(watch), repr(watch))


def had_together(run, tests):
    """The least moment of all at which each test holds, or None."""
    return least_of([moment for moment in moments_by_definition(run)
                     if all(holds_by_definition(run[hand], moment[hand], test) for hand, test in tests)])


class Hears(unittest.TestCase):

    def check(self, run, tests, order):
        watch, plain = Watch(len(run), tests), Plain(run, tests)
        self.check_alike(run, watch, plain)
        for many, deed in enumerate(order, 1):
            plain.hear(deed)
            told = watch.hears(*deed, deed_at(run, deed))
            self.assertEqual(plain.told, told, (run, tests, order))
            self.assertEqual(many, len(watch))
            self.check_alike(run, watch, plain)
        return watch

    def check_alike(self, run, watch, plain):
        self.assertEqual((plain.told, plain.front, plain.token, plain.letters),
                         (watch.told(), watch.front(), watch.token(), watch.letters()))
        self.assertTrue(watch.letters() <= sum(watch.front()))
        for hand in range(len(run)):
            for place in range(12):
                stands = place < len(run[hand]) and plain.stands((hand, place))
                self.assertIs(stands, watch.stands(hand, place))

    def test_step_by_step(self):
        rng = random.Random(312)
        told, letters = [], []
        for run in RUNS:
            for _ in range(6):
                tests = drawn_tests(rng, run)
                watches = [self.check(run, tests, drawn_order(rng, run)) for _ in range(3)]
                self.assertTrue(watches[0] == watches[1] == watches[2])
                told.append(watches[0].told())
                letters.append(watches[0].letters())
                self.assertEqual(had_together(run, tests), told[-1])
        self.assertGreater(told.count(None), 20)
        self.assertGreater(len(told) - told.count(None), 100)
        for many in (0, 1):
            self.assertGreater(letters.count(many), 15, many)
        self.assertGreater(max(letters), 1)

    def test_tests_of_one_of_some_of_all(self):
        rng = random.Random(313)
        for run in RUNS:
            for many in range(1, len(run) + 1):
                hands = sorted(rng.sample(range(len(run)), many))
                tests = tuple([(hand, ("done", rng.randint(0, len(run[hand])))) for hand in hands])
                watch = self.check(run, tests, drawn_order(rng, run))
                self.assertEqual(had_together(run, tests), watch.told())
                self.assertIsNotNone(watch.told())

    def test_as_soon_as_all_its_deeds_stand(self):
        """Told just when all deeds of the least moment stand, whatever else is heard."""
        rng = random.Random(314)
        for run in RUNS:
            for _ in range(4):
                tests = drawn_tests(rng, run)
                least = had_together(run, tests)
                watch = Watch(len(run), tests)
                for deed in drawn_order(rng, run):
                    told = watch.hears(*deed, deed_at(run, deed))
                    ready = least is not None and all(
                        count == 0 or watch.stands(hand, count - 1) for hand, count in enumerate(least))
                    self.assertEqual(least if ready else None, told)

    def test_told_for_good(self):
        watch = Watch(2, ((0, DONE),))
        self.assertEqual((1, 0), watch.hears(0, 0, DO))
        for place in range(1, 5):
            self.assertEqual((1, 0), watch.hears(0, place, DO))
            self.assertEqual((1, 0), watch.hears(1, place - 1, do(("a", 3))))
        self.assertEqual(((1, 0), None, 0, 9), (watch.front(), watch.token(), watch.letters(), len(watch)))

    def test_far_ahead_of_its_past(self):
        watch = Watch(3, ((2, ("done", 3)),))
        deeds = [(2, 2), (2, 1), (1, 2), (1, 1), (0, 1), (2, 0), (1, 0)]
        for deed in deeds:
            self.assertIsNone(watch.hears(*deed, deed_at(RELAY, deed)))
            self.assertEqual((0, 0, 0) if deed != (2, 0) and deed != (1, 0) else (0, 0, 1), watch.front())
            self.assertIs(deed in ((2, 0), (1, 0)), watch.stands(2, 0))
            self.assertIs(False, watch.stands(2, 1))
        self.assertEqual((2, 3, 3), watch.hears(0, 0, DO))
        for hand, counts in enumerate((2, 3, 3)):
            self.assertIs(True, watch.stands(hand, counts - 1))
            self.assertIs(False, watch.stands(hand, counts))

    def test_letters_of_the_token(self):
        """To and fro: each is so at first, and no more as the other one has gone on."""
        run = ASKED
        tests = ((0, ("is", "x", 2)), (1, ("done", 1)))
        watch = self.check(run, tests, [(1, 0), (1, 1), (0, 0), (0, 1), (1, 2), (0, 2)])
        self.assertEqual(((2, 2), 0), (watch.told(), watch.letters()))
        watch = self.check(run, ((0, ("is", "x", 1)), (1, ("done", 2))), places(run))
        self.assertEqual(((1, 2), 1), (watch.told(), watch.letters()))
        watch = self.check(run, ((0, FIRST), (1, ("done", 1))), places(run))
        self.assertEqual((None, 0, 1, (3, 2)), (watch.told(), watch.token(), watch.letters(), watch.front()))

    def test_round_about(self):
        free = ((DO,) * 4,) * 4
        watch = Watch(4, ((0, DONE), (1, DONE), (3, DONE)))
        self.assertEqual(0, watch.token())
        watch.hears(0, 0, DO)
        self.assertEqual((1, 1), (watch.token(), watch.letters()))
        watch.hears(3, 0, DO)
        self.assertEqual(((1, 0, 0, 0), 1), (watch.front(), watch.token()))
        self.assertEqual((1, 1, 0, 1), watch.hears(1, 0, DO))
        self.assertEqual((None, 2), (watch.token(), watch.letters()))
        tests = ((1, FIRST), (2, ("done", 2)), (3, DONE))
        run = free[:1] + ((send(2), take(3, 0), DO),) + ((take(1, 0), DO, DO), (send(1), DO, DO))
        watch = self.check(run, tests, places(run))
        self.assertEqual((None, 1), (watch.told(), watch.token()))

    def test_large(self):
        rng = random.Random(315)
        for run in LARGE:
            for _ in range(4):
                tests = tuple([(hand, ("done", rng.randint(0, 8))) for hand in range(len(run))])
                order = drawn_order(rng, run)
                watch = Watch(len(run), tests)
                for deed in order:
                    watch.hears(*deed, deed_at(run, deed))
                self.assertIsNotNone(watch.told())
                self.assertTrue(below(tuple([test[1] for _, test in tests]), watch.told()))
                self.assertEqual(48, len(watch))


class Begin(unittest.TestCase):

    def test_how_many_hands(self):
        for hands in range(1, 7):
            watch = Watch(hands, ((hands - 1, DONE),))
            self.assertEqual((0,) * hands, watch.front())
        for hands in (0, 7, -1, True, False, None, "3", (3,), [3], 10 ** 39, {}):
            for tests in (((0, DONE),), (), None):
                error = raised(Watch, hands, tests)
                self.assertIs(NoNumber, type(error), hands)
                self.assertIs(hands, error.number)

    def test_tests(self):
        for bad in NO_TESTS_ROWS:
            self.assertIs(NoTests, type(raised(Watch, 2, bad)), bad)
        for hands in range(1, 7):
            for hand in range(-1, 8):
                error = raised(Watch, hands, ((hand, DONE),))
                self.assertIs(None if 0 <= hand < hands else NoTests, error if error is None else type(error))

    def test_told_at_once(self):
        worths = ((0, ("is", "a", 0)), (1, ("most", "b", 5)), (2, FIRST))
        for tests in (((0, ALWAYS),), ((0, FIRST), (2, ALWAYS)), worths):
            watch = Watch(3, tests)
            self.assertEqual(((0, 0, 0), None, 0, (0, 0, 0)),
                             (watch.told(), watch.token(), watch.letters(), watch.front()))
            self.assertEqual((0, 0, 0), watch.hears(2, 0, DO))
            self.assertEqual((0, 0, 0), watch.front())

    def test_the_first_that_is_not_so(self):
        for tests, token in ((((0, DONE), (1, DONE)), 0), (((0, ALWAYS), (1, DONE)), 1),
                             (((0, FIRST), (1, ALWAYS), (2, DONE)), 2), (((1, DONE), (2, DONE)), 1),
                             (((0, ("least", "a", 1)), (2, DONE)), 0), (((2, NEVER),), 2)):
            watch = Watch(3, tests)
            self.assertEqual((None, token, 0, (0, 0, 0)),
                             (watch.told(), watch.token(), watch.letters(), watch.front()))
            self.assertEqual(0, len(watch))


class Refused(unittest.TestCase):

    def test_each(self):
        def hears(hand, place, deed):
            return Watch(2, ((0, DONE),)).hears(hand, place, deed)

        def stands(hand, place):
            return Watch(2, ((0, DONE),)).stands(hand, place)

        arguments = [("hand", "hand", 1), ("place", "place", 0), ("deed", "heard", DO)]
        check_call(self, hears, arguments)
        check_places(self, hears, arguments)
        check_call(self, stands, arguments[:2])
        check_places(self, stands, arguments[:2])
        check_call(self, Watch, [("hands", "hands", 2), ("tests", "tests", ((0, DONE),))])
        check_places(self, Watch, [("hands", "hands", 2), ("tests", "tests", ((0, DONE),))])

    def test_nothing_is_changed(self):
        watch = Watch(2, ((0, ("done", 2)), (1, DONE)))
        watch.hears(0, 0, send(1))
        before = state(watch, 2)
        for bad in ODD + (2, 6, None):
            for place in (1, 12, None):
                self.assertIs(NoHand, type(raised(watch.hears, bad, place, DO)))
            self.assertIs(NoHand, type(raised(watch.stands, bad, 0)))
        for bad in NO_HEARD_PLACES:
            for deed in (DO, None, send(0)):
                error = raised(watch.hears, 0, bad, deed)
                self.assertIs(NoNumber, type(error))
                self.assertIs(bad, error.number)
            self.assertIs(NoNumber, type(raised(watch.stands, 1, bad)))
        for bad in NO_DEEDS:
            for place in (0, 1, 11):
                self.assertIs(Unfit, type(raised(watch.hears, 1, place, bad)), bad)
        for deed in (send(0), take(0, 0), send(2), take(2, 0)):
            self.assertIs(Unfit, type(raised(watch.hears, 0, 0, deed)))
        for deed in (DO, send(1), take(1, 11)):
            self.assertIs(Heard, type(raised(watch.hears, 0, 0, deed)))
        self.assertEqual(before, state(watch, 2))
        watch.hears(0, 11, DO)
        self.assertIs(Heard, type(raised(watch.hears, 0, 11, DO)))

    def test_letters_among_so_many(self):
        for hands in range(1, 7):
            for hand in range(hands):
                for other in range(6):
                    for deed in (send(other), take(other, 3)):
                        error = raised(Watch(hands, ((0, DONE),)).hears, hand, 0, deed)
                        fits = other < hands and other != hand
                        self.assertIs(type(None) if fits else Unfit, type(error))

    def test_what_can_never_stand(self):
        """Of what is no run nothing is promised but forms; that it ends is one of them."""
        watch = Watch(2, ((0, DONE), (1, DONE)))
        self.assertIsNone(watch.hears(0, 0, take(1, 0)))
        self.assertIsNone(watch.hears(1, 0, take(0, 0)))
        self.assertIsNone(watch.hears(0, 1, take(1, 11)))
        self.assertEqual(3, len(watch))


class Objects(unittest.TestCase):

    def test_equal(self):
        rng = random.Random(316)
        for run in RUNS[:30]:
            tests = drawn_tests(rng, run)
            deeds = [deed for deed in places(run) if rng.random() < 0.8]
            watches = []
            for _ in range(3):
                rng.shuffle(deeds)
                watch = Watch(len(run), tests)
                for deed in deeds:
                    watch.hears(*deed, deed_at(run, deed))
                watches.append(watch)
            self.assertIs(True, watches[0] == watches[1])
            self.assertIs(False, watches[0] != watches[2])
            missed = [deed for deed in places(run) if deed not in deeds]
            if missed:
                watches[0].hears(*missed[0], deed_at(run, missed[0]))
                self.assertIs(False, watches[0] == watches[1])
            elif deeds:
                watch = Watch(len(run), tests)
                self.assertIs(False, watches[0] == watch)

    def test_unlike(self):
        watch = Watch(2, ((0, DONE),))
        for other in (Watch(3, ((0, DONE),)), Watch(2, ((1, DONE),)), Watch(2, ((0, ("done", 2)),)),
                      Watch(2, ((0, DONE), (1, ALWAYS)))):
            self.assertIs(False, watch == other)
        self.assertIs(True, watch == Watch(tests=((0, DONE),), hands=2))
        one, other = Watch(2, ((0, DONE),)), Watch(2, ((0, DONE),))
        one.hears(1, 5, do(("a", 1)))
        other.hears(1, 5, do(("a", 2)))
        self.assertIs(False, one == other)
        other = Watch(2, ((0, DONE),))
        other.hears(1, 6, do(("a", 1)))
        self.assertIs(False, one == other)
        other = Watch(2, ((0, DONE),))
        other.hears(deed=do(("a", 1)), place=5, hand=1)
        self.assertIs(True, one == other)
        for thing in ODD + (Watch, "Watch(2 hands, 0 heard)"):
            self.assertIs(False, watch == thing)
            self.assertIs(True, watch != thing)

    def test_len_and_repr(self):
        watch = Watch(3, ((0, NEVER),))
        self.assertEqual((0, "Watch(3 hands, 0 heard)"), (len(watch), repr(watch)))
        for place in (11, 2, 0, 5, 1):
            watch.hears(1, place, DO)
        self.assertEqual((5, "Watch(3 hands, 5 heard)"), (len(watch), repr(watch)))
        self.assertIsNotNone(raised(watch.hears, 1, 2, DO))
        self.assertEqual("Watch(3 hands, 5 heard)", str(watch))
        self.assertEqual("Watch(1 hands, 0 heard)", repr(Watch(1, ((0, DONE),))))

    def test_its_own(self):
        one, other = Watch(2, ((0, DONE),)), Watch(2, ((0, DONE),))
        one.hears(0, 0, DO)
        self.assertEqual((None, 0, 0), (other.told(), len(other), other.token()))
        watch = Watch(2, ((0, DONE), (1, DONE)))
        for deed in places(WRITTEN):
            watch.hears(*deed, deed_at(WRITTEN, deed))
        self.assertEqual((1, 1), watch.told())
        self.assertIs(True, watch.stands(place=1, hand=0))


if __name__ == "__main__":
    unittest.main()

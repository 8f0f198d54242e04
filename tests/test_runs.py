"""Names, deeds, runs; deeds of a run, worths, letters taken."""

import random
import unittest

from mighthave.errors import NoHand, NoNumber
from mighthave.run import runs
from mighthave.run.runs import deeds_of, is_deed, is_name, is_run, taken_by, worth_of
from tests import samples
from tests.refusals import check_anything, check_call, check_places
from tests.samples import DO, do, send, take


class Names(unittest.TestCase):

    def test_names(self):
        for name in ("a", "z", "ab", "abcdef", "zzzzzz", "send", "is"):
            self.assertIs(True, is_name(name), name)

    def test_no_names(self):
        for thing in ("", "abcdefg", "A", "aB", "a1", "a ", " a", "a\n", "\n", "a_", "a-b", "`", "{", "~",
                      0, 1, None, True, ("a",), ["a"], {"a": 1}, (), [], ("a", "b")):
            self.assertIs(False, is_name(thing), thing)


class Deeds(unittest.TestCase):

    def test_deeds(self):
        for deed in (DO, send(0), send(5), take(0, 0), take(5, 11), do(("a", 0)), do(("a", 99)),
                     do(("a", 1), ("b", 1), ("c", 1)), do(("a", 9), ("aa", 0), ("b", 5)),
                     send(3, ("x", 1)), take(2, 3, ("abcdef", 50), ("b", 0))):
            self.assertIs(True, is_deed(deed), deed)

    def test_wrong_acts(self):
        for act in (("send",), ("send", 6), ("send", -1), ("send", True), ("send", "1"), ("send", None), ("send", 1, 0),
                    ("take", 0), ("take", 6, 0), ("take", -1, 0), ("take", 0, 12), ("take", 0, -1), ("take", 0, True),
                    ("take", False, 0), ("take", 0, 0, 0), ("take", "0", 0), ("do",), ("give", 1), ("give", 0, 1),
                    "send", "", None, 0, [], ["send", 1], ["take", 0, 0], {}, (None,), ((),), (["send"], 1),
                    ("Send", 1), ("take", (0, 0)), (("send", 1),), (True, 1), ({}, 0, 0)):
            self.assertIs(False, is_deed((act, ())), act)

    def test_wrong_sets(self):
        for sets in ((("a", 100),), (("a", -1),), (("a", True),), (("a", False),), (("a", "1"),), (("a", None),),
                     (("a", 1), ("a", 1)), (("a", 1), ("a", 2)), (("b", 1), ("a", 2)), (("aa", 1), ("a", 2)),
                     (("a", 1), ("b", 1), ("c", 1), ("d", 1)), (("", 1),), (("abcdefg", 1),), (("A", 1),),
                     (("a",),), (("a", 1, 1),), ("a", 1), (["a", 1],), [("a", 1)], [], None, 0, "", {}, {"a": 1},
                     ((1, "a"),), (("a", (1,)),), ((None, 1),), (([], 1),), (None,), (("a", 1), None),
                     (("a", 10 ** 39),)):
            self.assertIs(False, is_deed(((), sets)), sets)

    def test_wrong_pairs(self):
        for thing in ((), ((),), ((), (), ()), [(), ()], None, 0, "", {}, True, "ab", samples.DEEP):
            self.assertIs(False, is_deed(thing), thing)

    def test_form_alone(self):
        self.assertIs(True, is_deed(take(0, 11)))
        self.assertIs(False, is_run(((take(0, 11),),)))


class Runs(unittest.TestCase):

    def test_bounds(self):
        self.assertEqual((6, 12, 48), (runs.MOST_HANDS, runs.MOST_DEEDS, runs.MOST_IN_ALL))

    def test_runs(self):
        for run in samples.SMALL + (samples.MANY, samples.LONG, samples.BUSY):
            self.assertIs(True, is_run(run), run)
        for run in samples.random_runs(1, 200, 30):
            self.assertIs(True, is_run(run), run)

    def test_hands(self):
        for many, told in ((0, False), (1, True), (6, True), (7, False)):
            self.assertIs(told, is_run(((),) * many))

    def test_deeds_in_a_row_and_in_all(self):
        self.assertIs(True, is_run(((DO,) * 12,)))
        self.assertIs(False, is_run(((DO,) * 13,)))
        self.assertIs(True, is_run(((DO,) * 8,) * 6))
        self.assertIs(True, is_run(((DO,) * 12,) * 4 + ((), ())))
        self.assertIs(False, is_run(((DO,) * 12,) * 4 + ((DO,),)))
        self.assertIs(False, is_run(((DO,) * 8,) * 5 + ((DO,) * 9,)))

    def test_letters_to_wrong_hands(self):
        self.assertIs(True, is_run(((send(1),), ())))
        self.assertIs(False, is_run(((send(0),), ())))
        self.assertIs(False, is_run(((), (send(1),))))
        self.assertIs(False, is_run(((send(2),), ())))
        self.assertIs(False, is_run(((send(0), take(0, 0)),)))
        self.assertIs(False, is_run(((send(1),),)))

    def test_wrong_takes(self):
        self.assertIs(True, is_run(((send(1),), (take(0, 0),))))
        self.assertIs(False, is_run(((send(1),), (take(0, 0), take(0, 0)))))
        self.assertIs(False, is_run(((send(1),), (), (take(0, 0),))))
        self.assertIs(False, is_run(((send(1),), (take(0, 0),), (take(0, 0),))))
        self.assertIs(False, is_run(((DO,), (take(0, 0),))))
        self.assertIs(False, is_run(((send(1),), (take(0, 1),))))
        self.assertIs(False, is_run(((), (take(0, 0),))))
        self.assertIs(False, is_run(((send(1),), (take(2, 0),))))
        self.assertIs(False, is_run(((send(1),), (DO, take(1, 0)))))
        self.assertIs(False, is_run(((send(1),), (take(0, 0),), (take(1, 0),))))

    def test_takes_otherwise(self):
        """Each thing in a take of another kind, or another number that counts from behind."""
        sends, back = (DO, send(2), send(2)), (DO, send(0), send(0))
        for hand, place in ((0, 1), (0, 2), (1, 1), (1, 2)):
            self.assertIs(True, is_run((sends, sends, (take(hand, place),))))
        wrong = (("send", 0, 1), ("Take", 1, 1), ("", 1, 1), ("take", False, 1), ("take", True, 1), ("take", 0, True),
                 ("take", True, True), ("take", -3, 1), ("take", -2, 1), ("take", -1, 1), ("take", 0, -1),
                 ("take", 0, -2),
                 ("take", 0, -13), ("take", 3, 1), ("take", 6, 1), ("take", 0, 3), ("take", 0, 12), ("take", "0", 1),
                 ("take", 0, "1"), ("take", None, 1), ("take", 0, None), ("take", (0,), 1), ("take", [0], 1),
                 ("take", 0, [1]), (["take"], 0, 1), (None, 0, 1), (0, 0, 1), ("take", {}, 1), ("take", 0, {}),
                 ("take", 0, 1, 1), ("take", 0), ("take",), ["take", 0, 1], "take", {"take": 0})
        for act in wrong:
            self.assertIs(False, is_run((sends, sends, ((act, ()),))), act)
            self.assertIs(False, is_run((((act, ()),), back, back)), act)

    def test_sends_otherwise(self):
        for act in (("Send", 1), ("take", 1), ("", 1), ("send", True), ("send", -1), ("send", 2), ("send", "1"), [],
                    ("send", None), ("send", (1,)), ("send", [1]), (["send"], 1), (None, 1), ("send",), ["send", 1],
                    "send", {}, 0, None, False, (1, "send"), ("send", 1, 1, 1)):
            self.assertIs(False, is_run((((act, ()),), ())), act)
            self.assertIs(False, is_run((((act, ()),), (take(0, 0),))), act)

    def test_names_again(self):
        """A name that was well once is so again only where it rises."""
        first = do(("a", 1), ("b", 2), ("c", 3))
        for sets in ((("b", 1), ("a", 2)), (("a", 1), ("a", 2)), (("c", 1), ("b", 2)), (("b", 1), ("b", 1)),
                     (("a", 1), ("c", 2), ("b", 3)), (("a", 1), ("b", 2), ("b", 3)), (("b", 1), ("c", 2), ("c", 2)),
                     (("a", True),), (("a", 1), ("b", False)), (("", 1),), (("a", 1), ("", 1)), ((None, 1),),
                     (([], 1),), ((("a",), 1),), (("a", 1), (None, 1)), (("a", 1), ([], 1)), (("A", 1),),
                     (("abcdefg", 1),)):
            self.assertIs(False, is_run(((first, ((), sets), first),)), sets)
            self.assertIs(False, is_run(((first,), (((), sets),))), sets)
            self.assertIs(False, is_run(((((), sets), first),)), sets)
        for sets in ((("b", 1),), (("a", 1), ("c", 2)), (("b", 1), ("c", 2)), (("aa", 1), ("b", 2)),
                     (("c", 0), ("d", 99))):
            self.assertIs(True, is_run(((first, ((), sets), first, ((), sets)),)), sets)

    def test_letters_to_and_fro(self):
        """Ten letters between two hands, each awaited ahead of the next one."""
        one = tuple([send(1) if at % 2 == 0 else take(1, at) for at in range(10)])
        other = tuple([take(0, at) if at % 2 == 0 else send(0) for at in range(10)])
        self.assertIs(True, is_run((one, other)))
        self.assertIs(False, is_run((one[:9] + (take(1, 7),), other)))
        for at in range(0, 10, 2):
            row = list(one)
            row[at], row[at + 1] = (row[at + 1], row[at])
            self.assertIs(False, is_run((tuple(row), other)), at)

    def test_rings(self):
        self.assertIs(False, is_run(((take(1, 1), send(1)), (take(0, 1), send(0)))))
        self.assertIs(True, is_run(((send(1), take(1, 1)), (take(0, 0), send(0)))))
        self.assertIs(False, is_run(((take(2, 1), send(1)), (take(0, 1), send(2)), (take(1, 1), send(0)))))
        self.assertIs(True, is_run(((send(1), take(2, 1)), (take(0, 0), send(2)), (take(1, 1), send(0)))))

    def test_lists_at_any_depth(self):
        self.assertIs(True, is_run(((do(("a", 1)), send(1)), ())))
        for thing in ([(DO,)], ([DO],), ([[], ()],), (([(), ()],),), ((([], ()),),), ((((), []),),),
                      (((["send", 1], ()),), ()), ((((), [("a", 1)]),),), ((((), (["a", 1],)),),)):
            self.assertIs(False, is_run(thing), thing)

    def test_of_anything(self):
        for call in (is_run, is_deed, is_name):
            check_anything(self, call)

    def test_changed_runs(self):
        """A run with one thing otherwise is one just where each word of the document says so."""
        rng = random.Random(2)
        told = []
        for run in samples.random_runs(3, 400, 14):
            changed = changed_run(rng, run)
            told.append(is_run(changed))
            self.assertIs(told[-1], run_by_definition(changed), changed)
        self.assertGreater(told.count(True), 50)
        self.assertGreater(told.count(False), 50)

    def test_takes_put_elsewhere(self):
        """Letters all fit, each is taken once: just the order of all deeds tells whether it is a run."""
        rng = random.Random(7)
        told = []
        for run in samples.random_runs(8, 300, 48):
            for _ in range(9):
                run = with_a_take_elsewhere(rng, run)
                told.append(is_run(run))
                self.assertIs(told[-1], has_an_order_by_definition(run), run)
        self.assertGreater(told.count(True), 100)
        self.assertGreater(told.count(False), 100)


def with_a_take_elsewhere(rng, run):
    """A take changes its place with some deed of its hand that sends nothing."""
    rows = [list(row) for row in run]
    quiet = [(hand, place) for hand, place in samples.places(run) if run[hand][place][0][:1] != ("send",)]
    takes = [(hand, place) for hand, place in quiet if run[hand][place][0] != ()]
    if takes:
        hand, place = rng.choice(takes)
        other = rng.choice([at for each, at in quiet if each == hand])
        rows[hand][place], rows[hand][other] = rows[hand][other], rows[hand][place]
    return tuple([tuple(row) for row in rows])


def has_an_order_by_definition(run):
    """Deed by deed, each as soon as the one ahead of it and its letter's sending are done."""
    left = samples.places(run)
    going = True
    while going:
        going = False
        for hand, place in list(left):
            act = run[hand][place][0]
            if (hand, place - 1) not in left and not (act[:1] == ("take",) and act[1:] in left):
                left.remove((hand, place))
                going = True
    return left == []


def changed_run(rng, run):
    """Two deeds change their places, or a take or a sending is otherwise."""
    rows = [list(row) for row in run]
    found = samples.places(run)
    if len(found) < 2:
        return run
    (one, low), (other, high) = rng.sample(found, 2)
    if rng.random() < 0.6:
        rows[one][low], rows[other][high] = rows[other][high], rows[one][low]
    else:
        rows[one][low] = rng.choice((take(other, high), send(other), DO))
    return tuple([tuple(row) for row in rows])


def run_by_definition(run):
    """Of rows of deeds by their forms: letters fit, none is taken twice, no deed is ahead of itself."""
    taken = []
    for hand, place in samples.places(run):
        act = run[hand][place][0]
        if act[:1] == ("send",) and (act[1] == hand or act[1] >= len(run)):
            return False
        if act[:1] == ("take",):
            if act[1:] in taken or act[1:] not in samples.places(run):
                return False
            if run[act[1]][act[2]][0] != ("send", hand):
                return False
            taken.append(act[1:])
    pairs = samples.known_pairs(run)
    return not any(one != other and (other, one) in pairs for one, other in pairs)


class DeedsOf(unittest.TestCase):

    def test_rising(self):
        self.assertEqual((), deeds_of(samples.EMPTY))
        self.assertEqual((), deeds_of(samples.HANDS_WITHOUT_DEEDS))
        self.assertEqual(((0, 0), (0, 1), (1, 0)), deeds_of(samples.WRITTEN))
        self.assertEqual(((0, 0), (2, 0), (2, 1)), deeds_of(((DO,), (), (DO, DO))))
        for run in samples.random_runs(4, 50):
            self.assertEqual(tuple(samples.places(run)), deeds_of(run))

    def test_refusals(self):
        arguments = [("run", "run", samples.WRITTEN)]
        check_call(self, deeds_of, arguments)
        check_places(self, deeds_of, arguments)


class WorthOf(unittest.TestCase):
    RUN = ((do(("a", 5)), do(("b", 1)), do(("a", 7), ("b", 0)), DO, do(("a", 0))), (do(("b", 9)),), ())

    def test_each_count(self):
        self.assertEqual([0, 5, 5, 7, 7, 0], [worth_of(self.RUN, 0, count, "a") for count in range(6)])
        self.assertEqual([0, 0, 1, 0, 0, 0], [worth_of(self.RUN, 0, count, "b") for count in range(6)])
        self.assertEqual([0, 9], [worth_of(self.RUN, 1, count, "b") for count in range(2)])

    def test_never_set(self):
        self.assertEqual([0] * 6, [worth_of(self.RUN, 0, count, "zzzzzz") for count in range(6)])
        self.assertEqual([0, 0], [worth_of(self.RUN, 1, count, "a") for count in range(2)])
        self.assertEqual(0, worth_of(self.RUN, 2, 0, "a"))

    def test_acts_set_too(self):
        self.assertEqual([0, 1, 2, 2], [worth_of(samples.ASKED, 0, count, "x") for count in range(4)])
        self.assertEqual([0, 0, 7, 7], [worth_of(samples.ASKED, 1, count, "y") for count in range(4)])

    def test_tells_a_whole_number(self):
        self.assertIs(int, type(worth_of(self.RUN, 0, 0, "a")))

    def test_refusals(self):
        arguments = [("run", "run", samples.WRITTEN), ("hand", "hand", 0), ("count", "count", 2), ("name", "name", "x")]
        check_call(self, worth_of, arguments)
        check_places(self, worth_of, arguments)

    def test_count_by_its_hand(self):
        with self.assertRaises(NoNumber) as caught:
            worth_of(samples.WRITTEN, 1, 2, "x")
        self.assertEqual(2, caught.exception.number)
        with self.assertRaises(NoHand):
            worth_of(samples.WRITTEN, 2, 9, "X")


class TakenBy(unittest.TestCase):

    def test_taken(self):
        self.assertEqual((1, 0), taken_by(samples.WRITTEN, (0, 0)))
        self.assertEqual((1, 1), taken_by(samples.CROSSED, (0, 0)))
        self.assertEqual((1, 0), taken_by(samples.CROSSED, (0, 1)))
        self.assertEqual((0, 1), taken_by(samples.ASKED, (1, 1)))

    def test_never_taken(self):
        self.assertIsNone(taken_by(samples.CROSSED, (0, 2)))
        self.assertIsNone(taken_by(samples.CROSSED, (0, 3)))

    def test_sends_none(self):
        self.assertIsNone(taken_by(samples.WRITTEN, (0, 1)))
        self.assertIsNone(taken_by(samples.WRITTEN, (1, 0)))

    def test_each_deed(self):
        for run in samples.random_runs(5, 100, 20):
            for deed in samples.places(run):
                takers = [(hand, place) for hand, place in samples.places(run)
                          if run[hand][place][0] == ("take", *deed)]
                self.assertEqual(takers[0] if takers else None, taken_by(run, deed))

    def test_refusals(self):
        arguments = [("run", "run", samples.WRITTEN), ("deed", "deed", (0, 0))]
        check_call(self, taken_by, arguments)
        check_places(self, taken_by, arguments)


if __name__ == "__main__":
    unittest.main()

"""Tests of one hand: what they are, where they hold, their stretches."""

import random
import unittest

from mighthave.errors import NoHand, NoNumber, NoTest
from mighthave.say.own import holds_at, is_test, stretches, where
from tests import samples
from tests.definitions import holds_by_definition, random_test
from tests.refusals import NO_TESTS, check_anything, check_call, check_places, raised
from tests.samples import DO, WRITTEN, do, send, take

ATOM = ("done", 1)
# Set again and again, by one hand; by the other one only; by none.
RUN = (
    (do(("a", 5)), do(("b", 1)), send(1, ("a", 7), ("b", 0)), DO, do(("a", 5)), do(("a", 0), ("c", 99))),
    (take(0, 2, ("other", 9)),),
    (),
)


def within(many, atom=ATOM):
    """A test of so many within one another."""
    return atom if many == 1 else ("not", within(many - 1, atom))


class IsTest(unittest.TestCase):

    def test_each_word(self):
        for test in (("is", "a", 0), ("is", "abcdef", 99), ("least", "x", 1), ("most", "x", 98), ("done", 0),
                     ("done", 12), ("not", ATOM), ("and", (ATOM, ATOM)), ("or", (ATOM, ("is", "a", 1), ATOM))):
            self.assertIs(True, is_test(test), test)

    def test_names(self):
        for word in ("is", "least", "most"):
            for name, told in (("a", True), ("abcdef", True), ("abcdefg", False), ("", False), ("A", False),
                               ("a1", False), ("a\n", False), (" a", False), (0, False), (None, False), (True, False),
                               (("a",), False), (["a"], False), ({}, False), ("is", True)):
                self.assertIs(told, is_test((word, name, 1)), name)

    def test_numbers(self):
        for word in ("is", "least", "most"):
            for k, told in ((0, True), (99, True), (100, False), (-1, False), (True, False), (False, False),
                            (None, False), ("1", False), ((1,), False), ([], False), (10 ** 39, False)):
                self.assertIs(told, is_test((word, "a", k)), k)
        for k, told in ((0, True), (12, True), (13, False), (-1, False), (True, False), (False, False), (None, False),
                        ("1", False), ((1,), False), ({}, False)):
            self.assertIs(told, is_test(("done", k)), k)

    def test_how_many_parts(self):
        for word in ("and", "or"):
            for many in range(7):
                self.assertIs(2 <= many <= 4, is_test((word, (ATOM,) * many)), many)

    def test_four_within_one_another(self):
        for many in range(1, 8):
            self.assertIs(many <= 4, is_test(within(many)), many)
        for word in ("and", "or"):
            for many in range(1, 6):
                self.assertIs(many <= 3, is_test((word, (within(many), ATOM))), many)
                self.assertIs(many <= 3, is_test((word, (ATOM, ATOM, within(many)))), many)
        self.assertIs(True, is_test(("and", (ATOM, ("or", (ATOM, ("and", (ATOM, ATOM))))))))
        self.assertIs(False, is_test(("and", (ATOM, ("or", (ATOM, ("and", (ATOM, ("not", ATOM)))))))))

    def test_twelve_of_the_first_four_kinds(self):
        four, three = ("or", (ATOM,) * 4), ("and", (ATOM,) * 3)
        self.assertIs(True, is_test(("and", (four, four, four))))
        self.assertIs(True, is_test(("and", (three, three, three, three))))
        self.assertIs(True, is_test(("and", (four, three, three, ("or", (("not", ATOM), ATOM))))))
        self.assertIs(False, is_test(("and", (four, four, four, ATOM))))
        self.assertIs(False, is_test(("and", (four, three, three, three))))
        self.assertIs(False, is_test(("and", (four, four, four, four))))
        self.assertIs(False, is_test(("or", (ATOM, ("and", (four, four, four))))))
        self.assertIs(True, is_test(("not", ("and", (four, four, four)))))

    def test_the_same_part_twice_counts_twice(self):
        part = ("and", (ATOM, ("not", ATOM), ATOM))
        self.assertIs(True, is_test(("or", (part, part, part, part))))
        part = ("and", (ATOM, ("not", ATOM), ATOM, ATOM))
        self.assertIs(True, is_test(("or", (part, part, part))))
        self.assertIs(False, is_test(("or", (part, part, part, part))))
        deep = ATOM
        for _ in range(14):
            deep = ("and", (deep,) * 4)
        self.assertIs(False, is_test(deep))

    def test_lists_in_the_place_of_tuples(self):
        for thing in (["done", 1], ("not", ["done", 1]), ("and", [ATOM, ATOM]), ("or", [ATOM, ATOM]),
                      ["and", (ATOM, ATOM)], ("and", (ATOM, ["done", 1])), ("or", (ATOM, ("not", ["done", 1]))),
                      ("not", ("and", [ATOM, ATOM])), {"done": 1}, ("and", {"a": 1, "b": 2})):
            self.assertIs(False, is_test(thing), thing)

    def test_wrong_words_and_lengths(self):
        for thing in NO_TESTS:
            self.assertIs(False, is_test(thing), thing)
        for word in ("and", "or", "not", "done"):
            self.assertIs(False, is_test((word, (ATOM, ATOM), (ATOM, ATOM))), word)
            self.assertIs(False, is_test((word, (ATOM, ATOM), 1)), word)
        check_anything(self, is_test)
        self.assertIs(True, is_test(thing=ATOM))

    def test_drawn_ones(self):
        rng = random.Random(31)
        for _ in range(300):
            self.assertIs(True, is_test(random_test(rng)))


class Holding(unittest.TestCase):

    def check(self, run, hand, test, counts):
        self.assertEqual(counts, where(run, hand, test), test)
        for count in range(len(run[hand]) + 1):
            self.assertIs(count in counts, holds_at(run, hand, count, test), (test, count))

    def test_a_name_set_again_and_again(self):
        self.check(RUN, 0, ("is", "a", 5), (1, 2, 5))
        self.check(RUN, 0, ("is", "a", 7), (3, 4))
        self.check(RUN, 0, ("is", "a", 0), (0, 6))
        self.check(RUN, 0, ("least", "a", 5), (1, 2, 3, 4, 5))
        self.check(RUN, 0, ("least", "a", 6), (3, 4))
        self.check(RUN, 0, ("most", "a", 5), (0, 1, 2, 5, 6))
        self.check(RUN, 0, ("most", "a", 4), (0, 6))
        self.check(RUN, 0, ("is", "b", 1), (2,))
        self.check(RUN, 0, ("least", "c", 99), (6,))

    def test_never_set_or_by_other_hands_only(self):
        for hand, name in ((0, "zzz"), (0, "other"), (1, "a"), (2, "a")):
            whole = tuple(range(len(RUN[hand]) + 1))
            self.check(RUN, hand, ("is", name, 0), whole)
            self.check(RUN, hand, ("most", name, 0), whole)
            self.check(RUN, hand, ("least", name, 0), whole)
            self.check(RUN, hand, ("is", name, 1), ())
            self.check(RUN, hand, ("least", name, 1), ())

    def test_counts(self):
        for k in range(13):
            self.check(RUN, 0, ("done", k), tuple(range(k, 7)))
            self.check(RUN, 2, ("done", k), (0,) if k == 0 else ())

    def test_not_and_or_within_one_another(self):
        five, none = ("is", "a", 5), ("is", "a", 0)
        self.check(RUN, 0, ("not", five), (0, 3, 4, 6))
        self.check(RUN, 0, ("not", ("not", five)), (1, 2, 5))
        self.check(RUN, 0, ("or", (five, none)), (0, 1, 2, 5, 6))
        self.check(RUN, 0, ("and", (five, none)), ())
        self.check(RUN, 0, ("and", (five, ("done", 2))), (2, 5))
        self.check(RUN, 0, ("or", (("not", ("done", 1)), ("and", (five, ("is", "b", 1))), ("done", 6))), (0, 2, 6))
        self.check(RUN, 0, ("and", (("or", (five, none)), ("not", ("and", (none, ("done", 1)))))), (0, 1, 2, 5))
        self.check(RUN, 0, ("and", (five, five, five, ("done", 5))), (5,))

    def test_always_and_never(self):
        for hand in range(3):
            whole = tuple(range(len(RUN[hand]) + 1))
            self.check(RUN, hand, ("or", (("done", 1), ("not", ("done", 1)))), whole)
            self.check(RUN, hand, ("and", (("done", 1), ("not", ("done", 1)))), ())

    def test_by_definition(self):
        rng = random.Random(32)
        for run in samples.random_runs(33, 150, 20):
            for hand, row in enumerate(run):
                test = random_test(rng)
                counts = [count for count in range(len(row) + 1) if holds_by_definition(row, count, test)]
                self.check(run, hand, test, tuple(counts))

    def test_refusals(self):
        arguments = [("run", "run", WRITTEN), ("hand", "hand", 0), ("count", "count", 2), ("test", "test", ATOM)]
        check_call(self, holds_at, arguments)
        check_places(self, holds_at, arguments)
        arguments = [("run", "run", WRITTEN), ("hand", "hand", 0), ("test", "test", ATOM)]
        for call in (where, stretches):
            check_call(self, call, arguments)
            check_places(self, call, arguments)

    def test_a_count_of_this_hand(self):
        error = raised(holds_at, WRITTEN, 1, 2, ATOM)
        self.assertIs(NoNumber, type(error))
        self.assertEqual(2, error.number)
        self.assertIs(NoHand, type(raised(holds_at, WRITTEN, 2, 9, ("done", 13))))
        self.assertIs(NoNumber, type(raised(holds_at, WRITTEN, 1, 9, ("done", 13))))
        self.assertIs(NoTest, type(raised(holds_at, WRITTEN, 1, 1, ("done", 13))))


class Stretches(unittest.TestCase):

    def test_plain(self):
        self.assertEqual(((1, 2), (5, 5)), stretches(RUN, 0, ("is", "a", 5)))
        self.assertEqual(((0, 0), (6, 6)), stretches(RUN, 0, ("is", "a", 0)))
        self.assertEqual(((0, 2), (5, 6)), stretches(RUN, 0, ("most", "a", 5)))
        self.assertEqual(((1, 5),), stretches(RUN, 0, ("least", "a", 5)))

    def test_always_and_never(self):
        self.assertEqual(((0, 6),), stretches(RUN, 0, ("done", 0)))
        self.assertEqual(((0, 0),), stretches(RUN, 2, ("done", 0)))
        self.assertEqual((), stretches(RUN, 0, ("done", 12)))
        self.assertEqual((), stretches(RUN, 2, ("done", 1)))

    def test_each_a_longest_row(self):
        rng = random.Random(34)
        for run in samples.random_runs(35, 150, 20):
            for hand, row in enumerate(run):
                test = random_test(rng)
                counts = [count for count in range(len(row) + 1) if holds_by_definition(row, count, test)]
                pairs = [(low, high) for low in range(len(row) + 1) for high in range(low, len(row) + 1)
                         if all(count in counts for count in range(low, high + 1))
                         and low - 1 not in counts and high + 1 not in counts]
                self.assertEqual(tuple(pairs), stretches(run, hand, test))

    def test_kinds(self):
        told = stretches(RUN, 0, ("is", "a", 5))
        self.assertIs(tuple, type(told))
        self.assertTrue(all(type(pair) is tuple for pair in told))
        self.assertIs(tuple, type(where(RUN, 0, ("is", "a", 5))))


if __name__ == "__main__":
    unittest.main()

"""Sayings: what they are, their size and hands, and which moments fulfil them."""

import random
import unittest

from mighthave.errors import NoNumber, NoRun, NoSaying, TooWide
from mighthave.lots.slices import is_in, is_slice, spanned
from mighthave.say.sayings import hands_of, is_saying, meant, size_of
from tests import samples
from tests.definitions import ROAD_WORDS, all_ways, depth_of, inner_sayings, is_lot, meaning, random_saying
from tests.refusals import NO_SAYINGS, check_anything, check_call, check_places, raised
from tests.samples import ALONE, ASKED, DO, EMPTY, FREE, HANDS_WITHOUT_DEEDS, RELAY, WRITTEN, send, take

ATOM = ("done", 1)
ALWAYS, NEVER = ("all", ()), ("hand", 0, ("and", (("done", 1), ("not", ("done", 1)))))
BEGIN, END = ("begin",), ("end",)
# Two hands that write to each other, and one that does as it likes.
LETTERS = (
    (send(1, ("x", 1)), DO, take(1, 1, ("x", 2))),
    (take(0, 0), send(0, ("y", 7))),
    (DO,),
)
PAIR = ((DO, DO), (DO, DO))
# Small enough to go all of their ways.
RUNS = (
    EMPTY, HANDS_WITHOUT_DEEDS, ALONE, WRITTEN, ASKED, LETTERS, PAIR,
    ((send(1), send(1)), (take(0, 1), take(0, 0))),
)


def within(many, atom=END):
    """A saying of so many within one another."""
    return atom if many == 1 else ("on", within(many - 1, atom))


class IsSaying(unittest.TestCase):

    def test_each_word(self):
        for saying in (BEGIN, END, ("hand", 0, ATOM), ("hand", 1, ("not", ATOM)), ("road", 0, 1, "most", 0),
                       ("road", 1, 0, "least", 12), ("road", 0, 1, "just", 5), ALWAYS, ("all", (END,)),
                       ("till", END, BEGIN), ("since", ALWAYS, END), ("on", END), ("back", END), ("knows", 0, END),
                       ("holds", 1, END)):
            self.assertIs(True, is_saying(WRITTEN, saying), saying)

    def test_hands_that_are_not_there(self):
        for many in range(1, 7):
            run = ((),) * many
            for hand in range(-1, 8):
                told = 0 <= hand < many
                self.assertIs(told, is_saying(run, ("hand", hand, ATOM)))
                self.assertIs(told, is_saying(run, ("knows", hand, END)))
                self.assertIs(told, is_saying(run, ("holds", hand, END)))
                self.assertIs(told and hand != 0, is_saying(run, ("road", 0, hand, "most", 1)))
                self.assertIs(told and hand != 0, is_saying(run, ("road", hand, 0, "most", 1)))
                self.assertIs(told, is_saying(run, ("on", ("all", (END, ("back", ("holds", hand, END)))))))

    def test_roads(self):
        for word in ROAD_WORDS + ("is", "Most", "", "mos", "all"):
            self.assertIs(word in ROAD_WORDS, is_saying(WRITTEN, ("road", 0, 1, word, 1)), word)
        for k in range(-2, 15):
            self.assertIs(0 <= k <= 12, is_saying(WRITTEN, ("road", 0, 1, "just", k)), k)
        for hand in (0, 1):
            self.assertIs(False, is_saying(WRITTEN, ("road", hand, hand, "just", 1)))
        self.assertIs(False, is_saying(EMPTY, ("road", 0, 0, "just", 1)))

    def test_parts_of_all(self):
        for many in range(7):
            self.assertIs(many <= 4, is_saying(WRITTEN, ("all", (END,) * many)), many)

    def test_six_within_one_another(self):
        for many in range(1, 10):
            self.assertIs(many <= 6, is_saying(WRITTEN, within(many)), many)
            self.assertIs(many <= 6, is_saying(WRITTEN, within(many, ALWAYS)), many)
        for many in range(1, 8):
            for saying in (("all", (END, within(many))), ("till", within(many), END), ("since", END, within(many)),
                           ("knows", 0, within(many)), ("holds", 1, within(many)), ("back", within(many))):
                self.assertIs(many <= 5, is_saying(WRITTEN, saying), saying)

    def test_24_in_one(self):
        four = ("all", (END,) * 4)
        saying = ("all", (four, four, four, four))
        self.assertIs(True, is_saying(WRITTEN, saying))
        self.assertEqual(21, size_of(WRITTEN, saying))
        for more, told in ((within(1), True), (within(2), True), (within(3), False)):
            self.assertIs(told, is_saying(WRITTEN, ("till", saying, more)), more)
        self.assertEqual(24, size_of(WRITTEN, ("till", saying, ("on", END))))
        self.assertIs(True, is_saying(WRITTEN, ("on", ("on", ("on", saying)))))
        self.assertIs(False, is_saying(WRITTEN, ("on", ("till", ("on", END), saying))))
        self.assertIs(False, is_saying(WRITTEN, ("all", (saying, END, END, END))))

    def test_the_same_part_twice_counts_twice(self):
        part = ("till", END, ("since", END, END))
        self.assertEqual(11, size_of(WRITTEN, ("all", (part, part))))
        self.assertIs(True, is_saying(WRITTEN, ("all", (part,) * 4)))
        self.assertIs(False, is_saying(WRITTEN, ("all", (("on", part),) * 4)))
        deep = END
        for _ in range(14):
            deep = ("all", (deep,) * 4)
        self.assertIs(False, is_saying(WRITTEN, deep))

    def test_the_bounds_of_tests_beside_those_of_sayings(self):
        full = ("and", (("or", (ATOM,) * 4),) * 3)
        self.assertIs(True, is_saying(WRITTEN, within(6, ("hand", 0, ("not", ("not", ("not", ATOM)))))))
        self.assertIs(False, is_saying(WRITTEN, ("hand", 0, ("not", ("not", ("not", ("not", ATOM)))))))
        self.assertIs(True, is_saying(WRITTEN, ("all", (("hand", 0, full),) * 4)))
        self.assertEqual(5, size_of(WRITTEN, ("all", (("hand", 0, full),) * 4)))
        self.assertIs(False, is_saying(WRITTEN, ("hand", 0, ("and", (full, ATOM)))))
        self.assertIs(False, is_saying(WRITTEN, ("on", ("all", (END, ("hand", 1, ("is", "A", 1)))))))

    def test_wrong_at_any_depth(self):
        for thing in NO_SAYINGS:
            for saying in (thing, ("on", thing), ("all", (END, thing)), ("till", thing, END), ("till", END, thing),
                           ("knows", 0, ("since", END, thing)), ("back", ("holds", 1, thing))):
                self.assertIs(False, is_saying(WRITTEN, saying), saying)

    def test_of_anything(self):
        for run in (WRITTEN, EMPTY):
            check_anything(self, is_saying, run)
        self.assertIs(True, is_saying(thing=END, run=WRITTEN))
        for bad in (None, (), [WRITTEN], ((DO,),) * 7):
            self.assertIs(NoRun, type(raised(is_saying, bad, END)))
            self.assertIs(NoRun, type(raised(is_saying, thing=None, run=bad)))

    def test_drawn_ones(self):
        rng = random.Random(41)
        for run in samples.random_runs(42, 200, 8):
            saying = random_saying(rng, run)
            self.assertIs(True, is_saying(run, saying), saying)
            for more in (("on", saying), ("till", saying, saying), ("all", (saying,) * 4)):
                told = depth_of(more) <= 6 and len(inner_sayings(more)) <= 24
                self.assertIs(told, is_saying(run, more), more)


class SizeAndHands(unittest.TestCase):

    def test_size(self):
        for size, saying in ((1, END), (1, ALWAYS), (1, ("hand", 0, ("and", (ATOM, ATOM)))), (2, ("all", (END,))),
                             (3, ("till", END, END)), (3, ("since", END, END)), (2, ("on", END)), (2, ("back", END)),
                             (2, ("knows", 0, END)), (2, ("holds", 0, END)), (5, ("all", (END, END, ("on", ALWAYS))))):
            self.assertEqual(size, size_of(WRITTEN, saying), saying)

    def test_hands(self):
        run = ((),) * 6
        for hands, saying in (((), END), ((), ("till", ALWAYS, BEGIN)), ((3,), ("hand", 3, ATOM)),
                              ((2, 5), ("road", 5, 2, "most", 1)), ((4,), ("knows", 4, END)), ((0,), ("holds", 0, END)),
                              ((1, 4), ("all", (("hand", 4, ATOM), ("hand", 1, ATOM), ("hand", 4, ATOM)))),
                              ((0, 1, 2, 5), ("since", ("holds", 5, ("road", 2, 1, "just", 0)), ("knows", 0, END)))):
            self.assertEqual(hands, hands_of(run, saying), saying)

    def test_at_any_depth(self):
        rng = random.Random(43)
        for run in samples.random_runs(44, 200, 8):
            saying = random_saying(rng, run)
            parts = inner_sayings(saying)
            self.assertEqual(len(parts), size_of(run, saying))
            named = [part[1] for part in parts if part[0] in ("hand", "road", "knows", "holds")]
            named += [part[2] for part in parts if part[0] == "road"]
            self.assertEqual(tuple(sorted(set(named))), hands_of(run, saying))

    def test_refusals(self):
        arguments = [("run", "run", WRITTEN), ("saying", "saying", ("till", ("knows", 1, END), END))]
        for call in (size_of, hands_of):
            check_call(self, call, arguments)
            check_places(self, call, arguments)


class Meant(unittest.TestCase):

    def check(self, run, saying):
        self.assertEqual(tuple(sorted(meaning(run, saying))), meant(run, saying), (run, saying))

    def test_begin_end_all_of_none(self):
        for run in RUNS + (FREE, RELAY):
            self.assertEqual(((0,) * len(run),), meant(run, BEGIN))
            self.assertEqual((tuple([len(row) for row in run]),), meant(run, END))
            self.assertEqual(tuple(samples.moments_by_definition(run)), meant(run, ALWAYS))
            self.assertEqual((), meant(run, NEVER))

    def test_plain(self):
        self.assertEqual(((1, 0), (1, 1), (2, 0), (2, 1)), meant(WRITTEN, ("hand", 0, ("is", "x", 3))))
        self.assertEqual(((1, 0), (2, 0)), meant(WRITTEN, ("road", 0, 1, "just", 1)))
        self.assertEqual(((0, 0), (1, 1), (2, 1)), meant(WRITTEN, ("road", 0, 1, "most", 0)))
        self.assertEqual(((1, 1), (2, 1)), meant(WRITTEN, ("on", ("road", 0, 1, "most", 0))))
        self.assertEqual(((0, 0),), meant(WRITTEN, ("back", ("road", 0, 1, "most", 0))))
        self.assertEqual(((1, 1), (2, 1)), meant(WRITTEN, ("knows", 1, ("hand", 0, ATOM))))
        self.assertEqual(((0, 0), (1, 0), (2, 0)), meant(WRITTEN, ("holds", 1, BEGIN)))
        self.assertEqual(((1, 1), (2, 1)), meant(WRITTEN, ("till", ("road", 0, 1, "most", 0), END)))
        self.assertEqual(((1, 0), (2, 0)), meant(WRITTEN, ("since", ("road", 0, 1, "just", 1), ("hand", 0, ATOM))))

    def test_each_word_of_each_plain_part(self):
        for run in RUNS:
            parts = [BEGIN, END, ALWAYS, NEVER, ("hand", 0, ATOM), ("hand", 0, ("not", ("done", 2))),
                     ("hand", len(run) - 1, ("is", "y", 7))]
            if len(run) > 1:
                parts += [("road", 0, 1, word, k) for word in ROAD_WORDS for k in (0, 1, 2, 12)]
            for part in parts:
                for saying in (part, ("on", part), ("back", part), ("knows", 0, part), ("holds", len(run) - 1, part)):
                    self.check(run, saying)
                for other in parts[:9]:
                    for word in ("till", "since"):
                        self.check(run, (word, part, other))
                    self.check(run, ("all", (part, other)))

    def test_a_way_must_keep_the_first(self):
        """At the middle count of hand 0 it is not as asked, so no way leads along from the one side to the other."""
        sides = ("hand", 0, ("or", (("is", "p", 0), ("is", "p", 2))))
        run = ((samples.do(("p", 1)), samples.do(("p", 2))), (DO, DO))
        self.assertEqual(((2, 0), (2, 1), (2, 2)), meant(run, ("till", sides, END)))
        self.assertEqual(((0, 0), (0, 1), (0, 2)), meant(run, ("since", sides, BEGIN)))
        self.assertEqual(((0, 0), (0, 1), (0, 2)), meant(run, ("till", sides, ("hand", 0, ("most", "p", 0)))))
        self.assertEqual((), meant(run, ("till", sides, ("hand", 0, ("is", "p", 1)))))
        self.assertEqual((), meant(run, ("since", sides, ("hand", 0, ("is", "p", 1)))))

    def test_sayings_within_one_another(self):
        rng = random.Random(45)
        small = [run for run in samples.random_runs(46, 150, 6) if len(all_ways(run)) < 200]
        self.assertGreater(len(small), 50)
        for run in list(RUNS) * 6 + small:
            for _ in range(4):
                self.check(run, random_saying(rng, run))

    def test_what_fulfils_is_a_lot(self):
        rng = random.Random(47)
        told = []
        for run in samples.random_runs(48, 120, 10):
            saying = random_saying(rng, run)
            found = meant(run, saying)
            self.assertTrue(is_lot(set(found)), (run, saying))
            told.append(len(found))
            if found:
                lot = spanned(run, found)
                self.assertIs(True, is_slice(run, lot))
                inside = [moment for moment in samples.moments_by_definition(run) if is_in(run, lot, moment)]
                self.assertEqual(found, tuple(inside))
        self.assertGreater(len(set(told)), 10)

    def test_as_many_moments_as_most_and_one_fewer(self):
        rng = random.Random(49)
        for run in list(samples.SMALL) + samples.random_runs(50, 20, 8):
            many = len(samples.moments_by_definition(run))
            for saying in (END, NEVER, ALWAYS, random_saying(rng, run)):
                self.assertEqual(meant(run, saying), meant(run, saying, most=many))
                if many > 1:
                    error = raised(meant, run, saying, most=many - 1)
                    self.assertIs(TooWide, type(error))
                    self.assertEqual(many - 1, error.most)

    def test_most(self):
        self.assertEqual(((0,),), meant(EMPTY, BEGIN, most=1))
        self.assertEqual(1, raised(meant, WRITTEN, NEVER, most=1).most)
        within_most = ((DO,) * 9, (DO,) * 9, (DO,) * 9, (DO,))
        self.assertEqual(2000, len(meant(within_most, ALWAYS)))
        beyond = ((DO,) * 12, (DO,) * 12, (DO,) * 11)
        error = raised(meant, beyond, END)
        self.assertIs(TooWide, type(error))
        self.assertEqual(2000, error.most)
        self.assertEqual(((12, 12, 11),), meant(beyond, ("on", END), most=2028))
        full = ((DO,) * 9, (DO,) * 9, (DO,) * 9, (DO,) * 4)
        self.assertEqual(5000, len(meant(full, ("till", ALWAYS, END), most=5000)))
        self.assertIs(TooWide, type(raised(meant, samples.MANY, BEGIN, most=5000)))

    def test_refusals(self):
        arguments = [("run", "run", WRITTEN), ("saying", "saying", ("on", END)), ("most", "most", 2000)]
        check_call(self, meant, arguments)
        check_places(self, meant, arguments[:2])
        self.assertIs(TypeError, type(raised(meant, WRITTEN, END, 2000)))

    def test_too_wide_is_behind_all(self):
        for most in (0, 5001, True, -1, None, "9", (5,)):
            error = raised(meant, samples.MANY, END, most=most)
            self.assertIs(NoNumber, type(error))
            self.assertIs(most, error.number)
        self.assertIs(NoSaying, type(raised(meant, samples.MANY, ("hand", 6, ATOM), most=1)))
        self.assertIs(NoSaying, type(raised(meant, samples.MANY, None, most=0)))
        self.assertIs(NoRun, type(raised(meant, samples.MANY + ((),), END, most=1)))

    def test_same_question_same_answer(self):
        saying = ("till", ("holds", 1, ("hand", 0, ATOM)), ("knows", 1, ("road", 0, 1, "most", 0)))
        self.assertEqual(meant(LETTERS, saying), meant(LETTERS, saying))


if __name__ == "__main__":
    unittest.main()

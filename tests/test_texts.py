"""What is written, and read again."""

import random
import unittest

from mighthave.errors import NoMoment, NoRun, NoSaying, NoSlice, NoSum, NoTest, NoTests, NoText, NoWay, Unfit
from mighthave.lots.plain import begin_slice
from mighthave.lots.slices import own_slice
from mighthave.run.runs import is_run
from mighthave.run.ways import way_by
from mighthave.say.sayings import is_saying
from mighthave.words import texts
from mighthave.words.texts import deed_text, moment_text, read_deed, read_run, read_saying, read_sum, read_tests
from mighthave.words.texts import run_text, saying_text, slice_text, sum_text, tests_text, way_text
from tests import samples, written
from tests.definitions import random_saying, random_test, slice_by_definition
from tests.refusals import NO_RUNS, NO_SLICES, NO_TESTS, check_call, check_places, raised
from tests.samples import DO, EMPTY, HANDS_WITHOUT_DEEDS, ODD, WRITTEN, do, send, take
from tests.summed import random_sum
from tests.test_must import drawn_tests
from tests.walked import drawn_lots
from tests.written import is_deed_text, texts_otherwise

RUNS = list(samples.SMALL) + samples.random_runs(321, 60, 12)
LARGE = [samples.MANY, samples.LONG, samples.BUSY]
END = ("end",)
TRUE = ("all", ())
SIX = ((),) * 6
NO_TEXTS = tuple([thing for thing in ODD if type(thing) is not str]) + (0, b"do", ("do",), ["do"])
DEEDS = (
    (DO, "do"), (send(0), "to 0"), (send(5), "to 5"), (take(0, 0), "of 0 0"), (take(5, 11), "of 5 11"),
    (do(("x", 3)), "do x=3"), (send(1, ("x", 3)), "to 1 x=3"), (take(2, 10, ("a", 0), ("b", 99)), "of 2 10 a=0 b=99"),
    (do(("a", 10), ("abcdef", 7), ("z", 0)), "do a=10 abcdef=7 z=0"), (do(("do", 1)), "do do=1"),
)
TESTS = (
    (("is", "a", 0), "is a 0"), (("least", "abcdef", 99), "least abcdef 99"), (("most", "is", 10), "most is 10"),
    (("done", 0), "done 0"), (("done", 12), "done 12"), (("not", ("done", 1)), "not done 1"),
    (("and", (("done", 1), ("is", "a", 1))), "and ( done 1 , is a 1 )"),
    (("or", (("done", 1),) * 4), "or ( done 1 , done 1 , done 1 , done 1 )"),
    (("not", ("or", (("not", ("done", 3)), ("most", "not", 5)))), "not or ( not done 3 , most not 5 )"),
    (("and", (("or", (("done", 1), ("done", 2))), ("done", 3))), "and ( or ( done 1 , done 2 ) , done 3 )"),
    (("not", ("not", ("not", ("done", 1)))), "not not not done 1"),
)
SAYINGS = (
    (("begin",), "begin"), (END, "end"), (("hand", 0, ("is", "x", 3)), "hand 0 is x 3"),
    (("road", 0, 1, "most", 0), "road 0 1 most 0"), (("road", 5, 4, "least", 12), "road 5 4 least 12"),
    (("road", 1, 0, "just", 3), "road 1 0 just 3"), (TRUE, "all ( )"), (("all", (END,)), "all ( end )"),
    (("all", (END, ("begin",))), "all ( end , begin )"), (("all", (END,) * 4), "all ( end , end , end , end )"),
    (("till", END, TRUE), "till end all ( )"), (("since", TRUE, END), "since all ( ) end"), (("on", END), "on end"),
    (("back", ("on", END)), "back on end"), (("knows", 0, END), "knows 0 end"), (("holds", 5, TRUE), "holds 5 all ( )"),
    (("till", ("hand", 0, ("is", "x", 3)), ("all", (END, ("road", 0, 1, "most", 0)))),
     "till hand 0 is x 3 all ( end , road 0 1 most 0 )"),
    (("on", ("on", ("on", ("on", ("on", END))))), "on on on on on end"),
    (("hand", 1, ("and", (("done", 1), ("done", 2)))), "hand 1 and ( done 1 , done 2 )"),
    (("all", (("hand", 1, ("or", (("done", 1), ("done", 2)))), TRUE)),
     "all ( hand 1 or ( done 1 , done 2 ) , all ( ) )"),
)


class Written(unittest.TestCase):

    def test_moments(self):
        for moment, text in (((0, 2, 1), "0.2.1"), ((0,), "0"), ((12,) * 6, "12.12.12.12.12.12"), ((10, 0), "10.0")):
            self.assertEqual(text, moment_text(moment))
        for bad in ODD + ((), (0,) * 7, (13,), (0, -1), (True,), (0, False), [0], "0", (0, None), ("0",), ((0,),), 0):
            self.assertIs(NoMoment, type(raised(moment_text, bad)), bad)

    def test_ways(self):
        for way, text in (((), "-"), ((0,), "0"), ((0, 1, 0), "0.1.0"), ((5,) * 48, ".".join("5" * 48))):
            self.assertEqual(text, way_text(way))
        for bad in [thing for thing in ODD if thing != ()] + [(0,) * 49, (6,), (-1,), (True,), [0], "0", (0, None), 0]:
            self.assertIs(NoWay, type(raised(way_text, bad)), bad)
        for run in RUNS + LARGE:
            self.assertEqual(written.written(way_by(run)) or "-", way_text(way_by(run)))

    def test_deeds(self):
        for deed, text in DEEDS:
            self.assertEqual(text, deed_text(deed))
        for bad in ODD + ((), ((), ()) + ((),), send(6), send(-1), take(0, 12), take(6, 0), do(("a", 100)), list(DO),
                          do(("b", 1), ("a", 1)), do(("A", 1)), do(("a", True)), (("send", True), ()), 0, "do"):
            self.assertIs(Unfit, type(raised(deed_text, bad)), bad)

    def test_runs(self):
        for run, text in ((WRITTEN, "to 1 x=3 ; do | of 0 0"), (EMPTY, "-"), (HANDS_WITHOUT_DEEDS, "- | - | -"),
                          (((DO,), (), (DO, DO)), "do | - | do ; do"), (((), (send(0), send(0))), "- | to 0 ; to 0")):
            self.assertEqual(text, run_text(run))
        for run in RUNS + LARGE:
            self.assertEqual(written.written_run(run), run_text(run))
        for bad in NO_RUNS:
            self.assertIs(NoRun, type(raised(run_text, bad)), bad)

    def test_tests(self):
        rng = random.Random(322)
        for test, text in TESTS:
            self.assertEqual(text, texts.test_text(test))
        for test in [random_test(rng) for _ in range(300)]:
            self.assertEqual(written.written_test(test), texts.test_text(test))
        for bad in NO_TESTS:
            self.assertIs(NoTest, type(raised(texts.test_text, bad)), bad)

    def test_sayings(self):
        rng = random.Random(323)
        for saying, text in SAYINGS:
            self.assertEqual(text, saying_text(saying))
        for saying in [random_saying(rng, SIX) for _ in range(500)]:
            self.assertEqual(written.written_saying(saying), saying_text(saying))
        deep = END
        for _ in range(6):
            deep = ("on", deep)
        for bad in ODD + (deep, ("hand", 6, ("done", 1)), ("knows", 6, END), ("holds", -1, END), ["end"], "end", (), 0,
                          ("road", 0, 6, "most", 1), ("road", 5, 5, "most", 1), ("road", 0, 1, "most", 13), ("end", 0),
                          ("hand", 0, ("done", 13)), ("hand", True, ("done", 1)), ("all", (END,) * 5), ("all", [END])):
            self.assertIs(NoSaying, type(raised(saying_text, bad)), bad)

    def test_slices(self):
        rng = random.Random(324)
        self.assertEqual("0.0 | 1.0 2.0 | 1.1", slice_text(WRITTEN, own_slice(WRITTEN)))
        self.assertEqual("0.0 | x x | x", slice_text(WRITTEN, begin_slice(WRITTEN)))
        self.assertEqual("none", slice_text(WRITTEN, None))
        self.assertEqual("0.0.0 | - | - | -", slice_text(HANDS_WITHOUT_DEEDS, own_slice(HANDS_WITHOUT_DEEDS)))
        self.assertEqual("0 | -", slice_text(EMPTY, own_slice(EMPTY)))
        for run in RUNS:
            for lot in drawn_lots(rng, run):
                told = slice_by_definition(run, set(lot))
                self.assertEqual(written.written_slice(told), slice_text(run, told))
        for bad in NO_SLICES:
            self.assertIs(NoSlice, type(raised(slice_text, WRITTEN, bad)), bad)

    def test_sums(self):
        rng = random.Random(325)
        for total, text in ((((0, "x", 1),), "0 x 1"), (((5, "abcdef", -9), (0, "a", 0)), "5 abcdef -9 , 0 a 0")):
            self.assertEqual(text, sum_text(total))
        for total in [random_sum(rng, SIX) for _ in range(100)]:
            self.assertEqual(written.written_sum(total), sum_text(total))
        for bad in ODD + ((), ((6, "a", 1),), ((0, "a", 10),), ((0, "a", True),), ((0, "a", 1), (0, "a", 2)), [],
                          "0 x 1", ((0, "A", 1),), tuple([(hand, name, 1) for hand in range(6) for name in "abc"])):
            self.assertIs(NoSum, type(raised(sum_text, bad)), bad)

    def test_tests_of_hands(self):
        rng = random.Random(326)
        for tests, text in ((((0, ("done", 1)),), "0 done 1"),
                            (((1, ("is", "x", 3)), (5, ("not", ("done", 2)))), "1 is x 3 , 5 not done 2"),
                            (((0, TESTS[6][0]), (2, TESTS[3][0])), f"0 {TESTS[6][1]} , 2 done 0")):
            self.assertEqual(text, tests_text(tests))
        for run in RUNS:
            tests = drawn_tests(rng, run)
            self.assertEqual(written.written_tests(tests), tests_text(tests))
        for bad in ODD + ((), ((6, ("done", 1)),), ((1, ("done", 1)), (0, ("done", 1))), ((0, ("done", 13)),),
                          "0 done 1", ((0, ("done", 1)), (0, ("done", 1))), ((True, ("done", 1)),), [(0, ("done", 1))]):
            self.assertIs(NoTests, type(raised(tests_text, bad)), bad)

    def test_by_names_and_places(self):
        for call, name, kind, good in (
                (deed_text, "deed", "form", do(("a", 1))), (run_text, "run", "run", WRITTEN),
                (texts.test_text, "test", "test", ("done", 1))):
            check_call(self, call, [(name, kind, good)])
            check_places(self, call, [(name, kind, good)])
        arguments = [("run", "run", WRITTEN), ("lot", "lot", own_slice(WRITTEN))]
        check_call(self, slice_text, arguments)
        check_places(self, slice_text, arguments)
        self.assertEqual("0", moment_text(moment=(0,)))
        self.assertEqual("0", way_text(way=(0,)))
        self.assertEqual("end", saying_text(saying=END))
        self.assertEqual("0 a 1", sum_text(total=((0, "a", 1),)))
        self.assertEqual("0 done 1", tests_text(tests=((0, ("done", 1)),)))


class Read(unittest.TestCase):

    def check(self, write, text, read, *run):
        """Just what is so written is read: NoText, or what the text writes."""
        error = raised(read, *run, text)
        if error is None:
            self.assertEqual(text, write(read(*run, text)))
            return True
        self.assertIs(NoText, type(error), (read.__name__, text, error))
        return False

    def check_otherwise(self, rng, write, things, read, *run):
        told = []
        for thing in things:
            text = write(thing)
            self.assertEqual(thing, read(*run, text))
            for other in texts_otherwise(rng, text):
                told.append(self.check(write, other, read, *run))
        return told

    def test_deeds(self):
        rng = random.Random(331)
        deeds = [deed for deed, _ in DEEDS] + [deed for run in RUNS for row in run for deed in row][:300]
        told = self.check_otherwise(rng, written.written_deed, deeds, read_deed)
        self.assertGreater(min(told.count(True), told.count(False)), 200)
        for deed in deeds:
            for text in texts_otherwise(rng, written.written_deed(deed)):
                self.assertIs(is_deed_text(text), raised(read_deed, text) is None, text)

    def test_runs(self):
        rng = random.Random(332)
        told = self.check_otherwise(rng, written.written_run, RUNS + LARGE, read_run)
        self.assertGreater(min(told.count(True), told.count(False)), 200)
        for text in ("", "-;-", "- ; -", "do ;", "; do", "do ; ; do", "do | ", " | do", "do||do", "do ;do", "- | - |",
                     "do ; -", "do x=3 | of 0 0", "to 0", "of 0 0", "to 1", " | ".join(["-"] * 7), "do ; " * 12 + "do",
                     " | ".join([" ; ".join(["do"] * 10)] * 5), "to 1 | of 0 0 ; of 0 0", "of 1 0 | of 0 0"):
            self.assertIs(NoText, type(raised(read_run, text)), text)
        self.assertEqual(SIX, read_run(" | ".join(["-"] * 6)))

    def test_sayings(self):
        rng = random.Random(333)
        told = []
        for saying, text in SAYINGS:
            self.assertEqual(saying, read_saying(SIX, text))
        for run in RUNS[:40]:
            things = [random_saying(rng, run) for _ in range(6)]
            told += self.check_otherwise(rng, written.written_saying, things, read_saying, run)
        self.assertGreater(min(told.count(True), told.count(False)), 150)

    def test_sums(self):
        rng = random.Random(334)
        told = []
        for run in RUNS[:40]:
            things = [random_sum(rng, run) for _ in range(5)]
            told += self.check_otherwise(rng, written.written_sum, things, read_sum, run)
        self.assertGreater(min(told.count(True), told.count(False)), 200)
        for text in ("", "0", "0 a", "0 a 10", "0 a 1 ,", "0 a 1 , ", ", 0 a 1", "0 a 1 0 b 1", "0 a 1,0 b 1", "2 a 1",
                     "0 a 1 , 0 a 2", "0 a -0", "0 a +1", "0 a 01", "-1 a 1", "0 A 1", "0  1", "0 a 1 , 1 a 1 , 0 a 3",
                     " , ".join([f"{hand} {name} 1" for hand in (0, 1) for name in "abcdefg"][:13])):
            self.assertIs(NoText, type(raised(read_sum, WRITTEN, text)), text)
        self.assertEqual(((1, "a", -9), (0, "a", 9)), read_sum(WRITTEN, "1 a -9 , 0 a 9"))

    def test_tests_of_hands(self):
        rng = random.Random(335)
        told = []
        for run in RUNS[:40]:
            things = [drawn_tests(rng, run) for _ in range(5)]
            told += self.check_otherwise(rng, written.written_tests, things, read_tests, run)
        self.assertGreater(min(told.count(True), told.count(False)), 150)
        for test, text in TESTS:
            self.assertEqual(((1, test),), read_tests(WRITTEN, f"1 {text}"))
            self.assertEqual(((0, test), (1, test)), read_tests(WRITTEN, f"0 {text} , 1 {text}"))
            self.assertIs(NoText, type(raised(read_tests, WRITTEN, f"1 {text} , 0 {text}")))
            self.assertIs(NoText, type(raised(read_tests, WRITTEN, f"1 {text} 0")))
            self.assertIs(NoText, type(raised(read_tests, WRITTEN, text)))
            self.assertIs(NoText, type(raised(read_tests, WRITTEN, f"2 {text}")))

    def test_numbers(self):
        for number in ("00", "-0", "+1", "01", "1.0", "", "-", "--1", "1-", "1_0", "\u0663", "\u00b2", "\uff11", "0x1",
                       "9" * 40, "9" * 41, "9" * 5000, "-" + "9" * 39, "1 ", "\n1", "one", "None", "1e1"):
            for text in (f"to {number}", f"of 0 {number}", f"of {number} 0", f"do a={number}", f"to {number} a=1"):
                self.assertIs(NoText, type(raised(read_deed, text)), text)
            for text in (f"hand {number} done 1", f"hand 0 done {number}", f"hand 0 is a {number}",
                         f"road 0 {number} most 1", f"road 0 1 most {number}", f"knows {number} end"):
                self.assertIs(NoText, type(raised(read_saying, WRITTEN, text)), text)
            self.assertIs(NoText, type(raised(read_sum, WRITTEN, f"0 a {number}")))
            self.assertIs(NoText, type(raised(read_tests, WRITTEN, f"{number} done 1")))

    def test_levels(self):
        for many in range(9):
            for text, read in (("on " * many + "end", read_saying), ("back " * many + "hand 0 done 1", read_saying),
                               ("all ( " * many + "end" + " )" * many, read_saying),
                               ("till end " * many + "end", read_saying), ("knows 1 " * many + "begin", read_saying)):
                error = raised(read, WRITTEN, text)
                self.assertIs(many < 6, error is None, text)
                self.assertIn(type(error), (type(None), NoText))
            for text in ("0 " + "not " * many + "done 1",
                         "0 " + "and ( done 1 , " * many + "done 1" + " )" * many):
                self.assertIs(many < 4, raised(read_tests, WRITTEN, text) is None, text)
        for word in ("on ", "all ( ", "till ", "till end ", "knows 0 ", "hand 0 not ", "hand 0 and ( ", "not "):
            for many in (100, 1000, 5000):
                for tail in ("end", "done 1", "", " )" * many, "end" + " )" * many):
                    self.assertIs(NoText, type(raised(read_saying, WRITTEN, word * many + tail)))
        for word in ("not ", "and ( ", "or ( done 1 , "):
            for many in (100, 5000):
                self.assertIs(NoText, type(raised(read_tests, WRITTEN, "0 " + word * many + "done 1" + " )" * many)))

    def test_too_many_in_one(self):
        for many in (0, 1, 2, 3, 4, 5, 6, 50, 3000):
            inner = " , ".join(["end"] * many)
            text = f"all ( {inner} )" if many else "all ( )"
            self.assertIs(many < 5, raised(read_saying, WRITTEN, text) is None)
            inner = " , ".join(["done 1"] * many)
            for word in ("and", "or"):
                text = f"0 {word} ( {inner} )" if many else f"0 {word} ( )"
                self.assertIs(2 <= many <= 4, raised(read_tests, WRITTEN, text) is None)
        half = "all ( " + " , ".join(["all ( end , end , end , end )"] * 4) + " )"
        self.assertIsNone(raised(read_saying, WRITTEN, half))
        self.assertIs(NoText, type(raised(read_saying, WRITTEN, f"all ( {half} , {half} )")))
        plain = "or ( " + " , ".join(["done 1"] * 4) + " )"
        self.assertIsNone(raised(read_tests, WRITTEN, f"0 or ( {plain} , {plain} , {plain} )"))
        self.assertIs(NoText, type(raised(read_tests, WRITTEN, f"0 or ( {plain} , {plain} , {plain} , done 1 )")))

    def test_hands_that_are_there(self):
        for run in RUNS:
            for hand in range(8):
                there = hand < len(run)
                self.assertIs(there, raised(read_saying, run, f"hand {hand} done 1") is None)
                self.assertIs(there, raised(read_saying, run, f"knows {hand} end") is None)
                self.assertIs(there and hand > 0, raised(read_saying, run, f"road 0 {hand} most 1") is None)
                self.assertIs(there, raised(read_sum, run, f"{hand} a 1") is None)
                self.assertIs(there, raised(read_tests, run, f"{hand} done 1") is None)

    def test_brackets_and_blanks(self):
        for text in ("all( )", "all ()", "all (  )", "all ( end", "all ( end ,  )", "all ( , end )", "all end", "all )",
                     "all ( end ) )", "all ( end , , end )", "all (end)", "all ( end, end )", "all ( end end )", "all",
                     "all ( ( end ) )", "( end )", "end end", "begin ", "till end", "till end end end", "on", "hand 0",
                     "road 0 1 most", "road 0 1 is 1", "road 0 0 most 1", "hand 0 done 1 ,", "End", "END", "end\n"):
            self.assertIs(NoText, type(raised(read_saying, WRITTEN, text)), text)

    def test_what_is_no_text(self):
        for bad in NO_TEXTS:
            self.assertIs(NoText, type(raised(read_deed, bad)), bad)
            self.assertIs(NoText, type(raised(read_run, bad)), bad)
            for read in (read_saying, read_sum, read_tests):
                self.assertIs(NoText, type(raised(read, WRITTEN, bad)), bad)
        for bad in ODD:
            if type(bad) is str:
                for read in (read_saying, read_sum, read_tests):
                    self.assertIs(NoText, type(raised(read, WRITTEN, bad)), bad)
        for run in NO_RUNS:
            for read, good in ((read_saying, "end"), (read_sum, "0 a 1"), (read_tests, "0 done 1")):
                for text in (good, "", None, []):
                    self.assertIs(NoRun, type(raised(read, run, text)), run)

    def test_by_names(self):
        self.assertEqual(DO, read_deed(text="do"))
        self.assertEqual(EMPTY, read_run(text="-"))
        self.assertEqual(END, read_saying(text="end", run=WRITTEN))
        self.assertEqual(((0, "a", 1),), read_sum(text="0 a 1", run=WRITTEN))
        self.assertEqual(((0, ("done", 1)),), read_tests(text="0 done 1", run=WRITTEN))

    def test_what_is_told_is_well(self):
        rng = random.Random(336)
        for run in RUNS:
            self.assertIs(True, is_run(read_run(run_text(run))))
            saying = random_saying(rng, run)
            again = read_saying(run, saying_text(saying))
            self.assertIs(True, is_saying(run, again))
            self.assertEqual(saying, again)


if __name__ == "__main__":
    unittest.main()

"""Desks: rows of words and their answers, what is refused, many rows, the log."""

import itertools
import random
import unittest

from mighthave.book.book import Book
from mighthave.errors import NoBack, NoHand, NoLine, NoMoment, NoNumber, NoText, TooWide, Unfit, Unknown
from mighthave.words.desk import Desk
from mighthave.words.texts import run_text
from tests import samples
from tests.refusals import raised
from tests.samples import DO, FREE, ODD, WRITTEN

SPOKEN = "run to 1 x=3 ; do | of 0 0"
# Rows said one behind the other to one desk, each with its answer.
SAID = (
    (SPOKEN, "ok"),
    ("names", "-"),
    ("say sent hand 0 done 1", "ok"),
    ("say all all ( )", "ok"),
    ("say never all ( hand 0 done 1 , hand 0 not done 1 )", "ok"),
    ("say way road 0 1 just 1", "ok"),
    ("names", "all,never,sent,way"),
    ("slice all", "0.0 | 1.0 2.0 | 1.1"),
    ("slice way", "1.0 | 1.0 2.0 | x"),
    ("slice never", "none"),
    ("least sent", "1.0"),
    ("greatest sent", "2.1"),
    ("greatest way", "2.0"),
    ("least never", "none"),
    ("greatest never", "none"),
    ("many all", "5"),
    ("many never", "0"),
    ("at all 0", "0.0"),
    ("at all 4", "2.1"),
    ("at way 1", "2.0"),
    ("is sent 0.0", "no"),
    ("is sent 1.0", "yes"),
    ("is never 1.0", "no"),
    ("might sent", "might 1.0"),
    ("might sent,way,all", "might 1.0"),
    ("might all,all,all,all,all,all", "might 0.0"),
    ("might sent,never", "never"),
    ("tells way sent", "tells"),
    ("tells sent all", "tells"),
    ("tells never way", "tells"),
    ("tells all sent", "beyond 0.0"),
    ("sums all 0 x 1", "0 to 3"),
    ("sums sent 0 x -2 , 1 x 9", "-6 to -6"),
    ("sums all 0 y 1", "0 to 0"),
    ("sums never 0 x 1", "none"),
    ("must 0 is x 3 , 1 done 1", "must"),
    ("must 0 done 0", "must"),
    ("must 0 done 3", "by 0.0.1"),
    ("grow 1 to 0 y=7", "all 0 , never 0 , sent 0 , way 0"),
    ("slice all", "0.0 | 1.0 2.0 | 1.1 1.2"),
    ("grow 0 of 1 1", "all 0 , never 0 , sent 0 , way 0"),
    ("say end end", "ok"),
    ("grow 0 do", "all 0 , end 6 , never 0 , sent 0 , way 0"),
    ("drop end", "ok"),
    ("names", "all,never,sent,way"),
    ("back", "ok"),
    ("names", "all,end,never,sent,way"),
    ("least end", "4.2"),
    ("back", "ok"),
    ("least end", "3.2"),
    ("run do | do", "ok"),
    ("names", "-"),
    ("grow 0 do", "-"),
    ("say it holds 0 hand 1 done 1", "ok"),
    ("many it", "6"),
    ("run -", "ok"),
    ("must 0 done 1", "by -"),
)
WAYS = ("by 0.0.1", "by 0.1.0")


def begun(*rows):
    desk = Desk()
    for row in (SPOKEN, "say sent hand 0 done 1", "say end end") + rows:
        desk.say(row)
    return desk


def book_state(desk):
    book = desk.book()
    return None if book is None else (book.run(), book.names(), tuple(map(book.saying, book.names())), book.news())


class Answers(unittest.TestCase):

    def test_said(self):
        desk = Desk()
        for row, answer in SAID:
            told = desk.say(row)
            self.assertIs(str, type(told))
            if answer in WAYS:
                self.assertIn(told, WAYS)
            else:
                self.assertEqual(answer, told, row)
        self.assertEqual(len(SAID), len(desk))

    def test_many(self):
        desk = Desk()
        told = desk.many(tuple([row for row, _ in SAID]))
        self.assertIs(tuple, type(told))
        for (_, answer), each in zip(SAID, told):
            self.assertTrue(each == answer or each in WAYS and answer in WAYS)
        self.assertEqual(len(SAID), len(told))
        self.assertEqual((), Desk().many(()))

    def test_log(self):
        desk = Desk()
        self.assertEqual(((), 0), (desk.log(), len(desk)))
        rows = (SPOKEN, "names", "nonsense", "", "say a ", "say a end", None, 7, ["names"], ("names",), "at a 7",
                "back")
        logged = []
        for many, row in enumerate(rows, 1):
            raised(desk.say, row)
            word = row if type(row) is str else ""
            logged += [("in", word), ("out", word)]
            self.assertEqual(tuple(logged), desk.log())
            self.assertEqual(many, len(desk))

    def test_log_of_many(self):
        desk = Desk()
        self.assertIs(NoLine, type(raised(desk.many, (SPOKEN, "names", "name", "names"))))
        self.assertEqual(tuple(itertools.chain(*[(("in", row), ("out", row)) for row in (SPOKEN, "names", "name")])),
                         desk.log())
        self.assertEqual(3, len(desk))
        for bad in [thing for thing in ODD if type(thing) is not tuple] + [[SPOKEN], SPOKEN, {SPOKEN: 1}, 0]:
            self.assertIs(NoLine, type(raised(desk.many, bad)), bad)
        self.assertEqual(3, len(desk))
        self.assertIs(NoLine, type(raised(desk.many, ("names", None))))
        self.assertEqual(((("in", ""), ("out", "")), 5), (desk.log()[-2:], len(desk)))

    def test_many_up_to_the_first_refused(self):
        desk = Desk()
        error = raised(desk.many, (SPOKEN, "say a end", "drop b", "say b end"))
        self.assertIs(Unknown, type(error))
        self.assertEqual("b", error.name)
        self.assertEqual(("a",), desk.book().names())
        self.assertEqual(("a", "ok"), desk.many(rows=("names", "drop a")))

    def test_book(self):
        desk = Desk()
        self.assertIsNone(desk.book())
        desk.say(row=SPOKEN)
        book = desk.book()
        self.assertEqual(Book(WRITTEN), book)
        desk.say("say a end")
        self.assertIs(book, desk.book())
        self.assertEqual(("end",), book.saying("a"))
        desk.say(SPOKEN)
        self.assertEqual(Book(WRITTEN), desk.book())
        self.assertIsNot(book, desk.book())
        self.assertEqual(("a",), book.names())


class Checked:

    def check(self, desk, kind, row):
        """It is refused so, and changes nothing."""
        before = book_state(desk)
        error = raised(desk.say, row)
        self.assertIs(kind, type(error), (row, error))
        self.assertEqual(before, book_state(desk))
        return error


class NoLines(Checked, unittest.TestCase):

    def test_words(self):
        desk = begun()
        for row in ("", " ", "names ", " names", "names  ", "name", "Names", "NAMES", "names\n", "names\t", "names a",
                    "back ", " back", "back back", "back 1", "Run -", "run", "ru", " run -", "grow", "grow 0", "say",
                    "say a", "drop", "drop ", "drop  sent", "drop sent ", "drop sent sent", " drop sent", "slice",
                    "slice ", "slice sent ", "slice sent end", "least", "least  sent", "greatest", "greatest sent sent",
                    "many", "many sent 1", "at", "at sent", "at sent ", "at  0", "at sent 0 ", "at sent  0",
                    "at sent 0 0", "is", "is sent", "is sent ", "is sent 0.0 ", "is sent  0.0", "is  0.0", "might",
                    "might ", "might a ",
                    "might sent end", "tells", "tells sent", "tells sent ", "tells sent end end", "tells  sent end",
                    "tells sent  end", "sums", "sums sent", "must", "\trun -", "run\t-", "say\ta end", "grow 0\tdo"):
            self.check(desk, NoLine, row)

    def test_what_is_no_text(self):
        for desk in (Desk(), begun()):
            for bad in ODD:
                if bad != "send":
                    self.check(desk, NoLine, bad)
            for bad in (0, b"names", ["names"], ("names",)):
                self.check(desk, NoLine, bad)

    def test_numbers(self):
        desk = begun()
        for number in ("", "00", "01", "-0", "+1", "1.0", "a", "-", "--1", "9" * 41, "-" + "9" * 41, "1_0", "\u0663",
                       "\u00b2", "0x1", "1e1", "one", "9" * 5000):
            self.check(desk, NoLine, f"at sent {number}")
            self.check(desk, NoLine, f"at no {number}")
            self.check(desk, NoLine, f"grow {number} do")
            self.check(desk, NoLine, f"grow {number} nonsense")
        for number in ("9" * 40, "-" + "9" * 40, "-1"):
            error = self.check(desk, NoNumber, f"at sent {number}")
            self.assertEqual(int(number), error.number)
            error = self.check(desk, NoHand, f"grow {number} do")
            self.assertEqual(int(number), error.hand)

    def test_names(self):
        desk = begun()
        for name in ("", "A", "a1", "abcdefg", "sent,end", "-", "(", "sent\n", "\u00e9"):
            for row in ("say {} end", "say {} nonsense", "drop {}", "slice {}", "least {}", "greatest {}", "many {}",
                        "at {} 0", "is {} 0.0", "tells {} sent", "tells sent {}", "sums {} 0 x 1", "sums {} nonsense"):
                if name != "" or row not in ("say {} end", "say {} nonsense"):
                    self.check(desk, NoLine, row.format(name))
        self.check(desk, NoLine, "say  end")
        for names in ("", ",", "sent,", ",sent", "sent,,end", "sent, end", "sent,A", "a,b,c,d,e,f,g", "sent;end",
                      "sent,end,sent,end,sent,end,sent", "-"):
            self.check(desk, NoLine, f"might {names}")
        for names in ("no", "sent,no", "no,sent", "sent,sent,no", "a,b,c,d,e,f"):
            error = self.check(desk, Unknown, f"might {names}")
            self.assertEqual([name for name in names.split(",") if name not in ("sent", "end")][0], error.name)

    def test_moments(self):
        desk = begun()
        for moment in ("", ".", "0.", ".0", "0..0", "00.0", "0.01", "-1.0", "0.13", "13", "0,0", "0.0.0.0.0.0.0", "a.0",
                       "0.-0", "+0.0", "\u0663.0", "0.0\n", "(0.0)"):
            self.check(desk, NoLine, f"is sent {moment}")
            self.check(desk, NoLine, f"is no {moment}")
        for moment in ("0", "0.1", "3.0", "12.12", "0.0.0", "0.0.0.0.0.0", "2.2"):
            self.check(desk, NoMoment, f"is sent {moment}")
            self.check(desk, Unknown, f"is no {moment}")

    def test_ahead_of_a_book(self):
        rows = [row for row, _ in SAID if not row.startswith("run")]
        more = ["say a nonsense", "must nonsense", "grow 0 nonsense", "sums a nonsense", "at a -1", "at a 0"]
        for row in rows + more:
            desk = Desk()
            self.check(desk, NoLine, row)
            self.assertIsNone(desk.book())
        for row in ("run", "run ", "run nonsense", "run to 0", "run  -"):
            desk = Desk()
            self.check(desk, NoLine if row == "run" else NoText, row)
            self.assertIsNone(desk.book())
            desk.say("run -")
            self.assertIsNotNone(desk.book())


class Refused(Checked, unittest.TestCase):

    def test_texts(self):
        desk = begun()
        for text in ("", " ", "nonsense", "do ", " do", "do do", "do | do  ", "do ;", "to 9", "end ", " end", "0 x 10",
                     "0 done 13", "hand 2 done 1", "0 x", "5 x 1", "\n", "-1"):
            for row in ("run {}", "grow 0 {}", "grow 9 {}", "say sent {}", "say new {}", "sums sent {}", "sums no {}",
                        "must {}"):
                self.check(desk, NoText, row.format(text))

    def test_behind_texts(self):
        desk = begun()
        self.check(desk, NoHand, "grow 2 do")
        self.check(desk, NoHand, "grow -1 to 0")
        self.check(desk, Unfit, "grow 1 to 1")
        self.check(desk, Unfit, "grow 1 of 0 0")
        self.check(desk, Unfit, "grow 0 to 5")
        for row in ("drop no", "slice no", "least no", "greatest no", "many no", "at no 0", "at no -1", "is no 0.0",
                    "might no", "tells no end", "tells end no", "tells no nay", "sums no 0 x 1"):
            self.assertEqual("no", self.check(desk, Unknown, row).name)
        for number in (2, 5, 10 ** 39, -1, -10 ** 39):
            self.assertEqual(number, self.check(desk, NoNumber, f"at end {number}").number)
        for _ in range(2):
            desk.say("back")
        self.check(desk, NoBack, "back")

    def test_too_many_moments(self):
        desk = Desk()
        desk.say("run " + run_text(samples.MANY))
        desk.say("say all all ( )")
        desk.say("say end end")
        for row in ("many all", "at all 0", "at all 1"):
            self.assertEqual(2000, self.check(desk, TooWide, row).most)
        self.check(desk, NoNumber, "at all -1")
        self.assertEqual(("1", "8.8.8.8.8.8"), desk.many(("many end", "at end 0")))
        self.assertEqual("0.0.0.0.0.0 | " + " | ".join(
            [" ".join([".".join(["0"] * hand + [str(k)] + ["0"] * (5 - hand)) for k in range(1, 9)])
             for hand in range(6)]), desk.say("slice all"))

    def test_a_new_book(self):
        desk = begun()
        self.check(desk, NoText, "run do | to 2")
        self.assertEqual(("end", "sent"), desk.book().names())
        desk.say("run " + run_text(FREE))
        self.assertEqual(Book(FREE), desk.book())
        self.check(desk, NoBack, "back")

    def test_drawn_rows(self):
        """Whatever is said, it is answered by a text or refused by one of the errors, and the log has both ends."""
        rng = random.Random(341)
        words = [word for row, _ in SAID for word in row.split(" ")] + ["", "", "no", "0.0", "-1", "a,b", "sent,sent"]
        told = []
        for _ in range(400):
            desk = begun()
            for many in range(4, 14):
                row = rng.choice(SAID)[0].split(" ")
                for _ in range(rng.randint(0, 2)):
                    row[rng.randrange(len(row))] = rng.choice(words)
                text = " ".join(row)
                before = book_state(desk)
                error = raised(desk.say, text)
                told.append(type(error))
                self.assertIn(type(error), (type(None), NoLine, NoText, NoHand, NoNumber, NoMoment, Unfit, Unknown,
                                            NoBack))
                if error is not None:
                    self.assertEqual(before, book_state(desk))
                self.assertEqual((("in", text), ("out", text), many), (*desk.log()[-2:], len(desk)))
        for kind in (type(None), NoLine, NoText, Unknown):
            self.assertGreater(told.count(kind), 100, kind)


class Desks(unittest.TestCase):

    def test_their_own(self):
        one, other = Desk(), Desk()
        one.say("run do")
        self.assertIsNone(other.book())
        self.assertEqual(((), 0), (other.log(), len(other)))
        other.say("run do")
        one.say("grow 0 do")
        self.assertEqual((((DO, DO),), ((DO,),)), (one.book().run(), other.book().run()))
        log = one.log()
        one.say("back")
        self.assertEqual(4, len(log))
        self.assertEqual(3, len(one))


if __name__ == "__main__":
    unittest.main()

"""Books: runs that grow, sayings by names, deeds undone, news."""

import random
import unittest

from mighthave.book.book import Book
from mighthave.errors import NoBack, NoHand, NoName, NoRun, NoSaying, Unfit, Unknown
from mighthave.run.runs import is_run
from mighthave.say.told import slice_of
from tests import samples
from tests.definitions import inner_sayings, meaning, random_saying, slice_by_definition
from tests.refusals import NO_GROWTH, NO_NAMES, NO_RUNS, NO_SAYINGS, check_call, check_places, raised
from tests.samples import ASKED, CROSSED, DO, EMPTY, FREE, ODD, RELAY, WRITTEN, do, is_way_by_definition, places, send
from tests.samples import take

RUNS = list(samples.SMALL) + samples.random_runs(301, 30, 12)
LARGE = (samples.MANY, samples.LONG, samples.BUSY)
TRUE = ("all", ())
END = ("end",)
SENT = ("hand", 0, ("done", 1))
NEVER = ("all", (SENT, ("hand", 0, ("not", ("done", 1)))))
NAMES = ("a", "b", "it", "yes", "abcdef", "z")


def random_way(rng, run):
    """A way of the run, drawn deed by deed."""
    counts = [0] * len(run)
    way = []
    while len(way) < len(places(run)):
        hand = rng.randrange(len(run))
        if counts[hand] < len(run[hand]):
            act = run[hand][counts[hand]][0]
            if len(act) < 3 or act[2] < counts[act[1]]:
                counts[hand] += 1
                way.append(hand)
    return way


def deeds_along(run, way):
    counts = [0] * len(run)
    for hand in way:
        yield hand, run[hand][counts[hand]]
        counts[hand] += 1


def cut_off(run, counts):
    return tuple([row[:count] for row, count in zip(run, counts)])


def begun_amid(rng, run):
    """A book begun amid the run, and the deeds that are still to come."""
    way = random_way(rng, run)
    assert is_way_by_definition(run, way)
    at = rng.choice((0, rng.randint(0, len(way))))
    start = cut_off(run, [way[:at].count(hand) for hand in range(len(run))])
    return Book(start), list(deeds_along(run, way))[at:]


def state(book):
    """All that the book tells."""
    names = book.names()
    told = [(name, book.saying(name), book.slice_of(name)) for name in names]
    return (book.run(), told, book.news(), len(book), repr(book))


def news_by_definition(run, grown, sayings):
    """By all moments that fulfil each saying, ahead and behind."""
    told = []
    for name in sorted(sayings):
        ahead = slice_by_definition(run, meaning(run, sayings[name]))
        behind = slice_by_definition(grown, meaning(grown, sayings[name]))
        told.append((name, others(run, ahead, behind)))
    return tuple(told)


def others(run, ahead, behind):
    if ahead is None and behind is None:
        return 0
    if ahead is None or behind is None:
        return len(places(run)) + 1
    firsts = [deed for deed in places(run) if ahead[1][deed[0]][deed[1]] != behind[1][deed[0]][deed[1]]]
    return len(firsts) + (ahead[0] != behind[0])


class Grow(unittest.TestCase):

    def test_to_the_same_run(self):
        rng = random.Random(302)
        for run in RUNS:
            sayings = {name: random_saying(rng, run, 4, 8) for name in NAMES[:4]}
            whole = Book(run)
            for name in sayings:
                whole.say(name, sayings[name])
            for _ in range(4):
                book, deeds = begun_amid(rng, run)
                late = rng.sample(sorted(sayings), 2)
                for name in sayings:
                    if name not in late:
                        book.say(name, sayings[name])
                for hand, deed in deeds:
                    book.grow(hand, deed)
                for name in late:
                    book.say(name, sayings[name])
                self.assertEqual(run, book.run())
                self.assertEqual(whole, book)
                self.assertIs(True, whole == book)
                for name in sayings:
                    self.assertEqual(slice_of(run, sayings[name]), book.slice_of(name))

    def test_news_by_all_moments(self):
        rng = random.Random(303)
        told = []
        for run in [run for run in RUNS if len(places(run)) <= 8]:
            for _ in range(3):
                book, deeds = begun_amid(rng, run)
                sayings = {name: random_saying(rng, run, 3, 5) for name in rng.sample(NAMES, 4)}
                for name in sayings:
                    book.say(name, sayings[name])
                for hand, deed in deeds:
                    before = book.run()
                    news = book.grow(hand, deed)
                    self.assertEqual(news_by_definition(before, book.run(), sayings), news)
                    self.assertEqual(news, book.news())
                    self.assertTrue(all(type(many) is int for _, many in news))
                    told += [many for _, many in news]
        for many in (0, 1, 2, 3):
            self.assertGreater(told.count(many), 10, many)

    def test_news_by_slices(self):
        rng = random.Random(304)
        for run in RUNS + list(LARGE):
            book, deeds = begun_amid(rng, run)
            sayings = {name: random_saying(rng, run, 5, 12) for name in NAMES}
            for name in sayings:
                book.say(name, sayings[name])
            for hand, deed in deeds:
                before = book.run()
                slices = {name: slice_of(before, sayings[name]) for name in sayings}
                news = book.grow(hand, deed)
                now = {name: slice_of(book.run(), sayings[name]) for name in sayings}
                told = tuple([(name, others(before, slices[name], now[name])) for name in sorted(NAMES)])
                self.assertEqual(told, news)

    def test_none_that_became_a_slice(self):
        book = Book(((DO, DO), (DO,)))
        book.say("b", ("hand", 1, ("done", 2)))
        book.say("a", ("all", (END, ("hand", 0, ("not", ("done", 3))))))
        book.say("c", NEVER)
        self.assertEqual((("a", 4), ("b", 4), ("c", 0)), book.grow(1, DO))
        self.assertEqual((("a", 5), ("b", 0), ("c", 0)), book.grow(0, DO))
        self.assertIsNone(book.slice_of("a"))
        self.assertEqual((("a", 0), ("b", 0), ("c", 0)), book.grow(0, DO))

    def test_what_stood_stays(self):
        """Of a saying without end, on, knows each least and first that stood."""
        rng = random.Random(305)
        stood = 0
        for run in RUNS:
            for _ in range(6):
                sayings = [random_saying(rng, run, 5, 10) for _ in range(8)]
                kept = [each for each in sayings if not any(part[0] in ("end", "on", "knows")
                                                            for part in inner_sayings(each))]
                book, deeds = begun_amid(rng, run)
                for name, saying in zip(NAMES, kept):
                    book.say(name, saying)
                for hand, deed in deeds:
                    ahead = {name: book.slice_of(name) for name in book.names()}
                    book.grow(hand, deed)
                    for name in book.names():
                        if ahead[name] is not None:
                            self.check_stays(ahead[name], book.slice_of(name))
                            stood += 1
        self.assertGreater(stood, 500)

    def check_stays(self, ahead, behind):
        self.assertEqual(ahead[0], behind[0])
        for row, also in zip(ahead[1], behind[1]):
            for first, other in zip(row, also):
                if first is not None:
                    self.assertEqual(first, other)

    def test_unfit(self):
        cases = [
            (WRITTEN, 0, ((), (("a", 100),))), (WRITTEN, 0, send(0)), (WRITTEN, 1, send(1)), (WRITTEN, 0, send(2)),
            (WRITTEN, 0, take(0, 0)), (WRITTEN, 0, take(1, 0)), (WRITTEN, 1, take(0, 0)), (WRITTEN, 1, take(0, 1)),
            (WRITTEN, 1, take(0, 2)), (WRITTEN, 1, take(1, 0)), (WRITTEN, 1, take(2, 0)), (RELAY, 2, take(0, 1)),
            (RELAY, 0, take(1, 2)), (CROSSED, 1, take(0, 3)), (CROSSED, 2, take(0, 2)), (CROSSED, 1, take(0, 0)),
            (((DO,) * 12, ()), 0, DO), (samples.MANY, 3, DO), (samples.LONG + ((),), 4, DO), (samples.MANY, 0, send(1)),
            (EMPTY, 0, send(0)), (EMPTY, 0, take(0, 0)), (((send(1),), (), ()), 2, take(0, 0)),
        ]
        for run, hand, deed in cases:
            book = Book(run)
            book.say("a", SENT)
            before = state(book)
            self.assertIs(Unfit, type(raised(book.grow, hand, deed)), (run, hand, deed))
            self.assertEqual(before, state(book))

    def test_fit(self):
        for run, hand, deed in ((CROSSED, 1, take(0, 2)), (CROSSED, 2, take(0, 3)), (WRITTEN, 1, send(0)),
                                (((DO,) * 11, ()), 0, DO), (samples.MANY[:5] + ((DO,) * 7,), 5, DO), (EMPTY, 0, DO),
                                (EMPTY, 0, do(("a", 1), ("b", 2), ("c", 3)))):
            book = Book(run)
            self.assertEqual((), book.grow(hand, deed))
            self.assertIs(True, is_run(book.run()))
            self.assertEqual(deed, book.run()[hand][-1])

    def test_of_anything(self):
        book = Book(WRITTEN)
        book.say("a", SENT)
        book.grow(0, DO)
        before = state(book)
        for bad in NO_GROWTH:
            self.assertIs(Unfit, type(raised(book.grow, 1, bad)), bad)
            for hand in ODD + (2, 6):
                error = raised(book.grow, hand, bad)
                self.assertIs(NoHand, type(error), hand)
                self.assertIs(hand, error.hand)
        self.assertEqual(before, state(book))
        self.assertIs(NoHand, type(raised(book.grow, True, DO)))


class Names(unittest.TestCase):

    def test_say_and_drop(self):
        book = Book(WRITTEN)
        self.assertEqual((), book.names())
        self.assertIsNone(book.say("b", SENT))
        self.assertIsNone(book.say("a", END))
        self.assertEqual(("a", "b"), book.names())
        self.assertEqual((SENT, END), (book.saying("b"), book.saying("a")))
        self.assertIsNone(book.say("b", TRUE))
        self.assertEqual((("a", "b"), TRUE), (book.names(), book.saying("b")))
        self.assertEqual(slice_of(WRITTEN, TRUE), book.slice_of("b"))
        self.assertIsNone(book.drop("a"))
        self.assertEqual(("b",), book.names())
        for call in (book.drop, book.saying, book.slice_of):
            error = raised(call, "a")
            self.assertIs(Unknown, type(error))
            self.assertEqual("a", error.name)
        self.assertIsNone(book.say("a", NEVER))
        self.assertIsNone(book.slice_of("a"))
        self.assertEqual(2, len(book))

    def test_refused_names(self):
        book = Book(WRITTEN)
        book.say("a", SENT)
        before = state(book)
        for bad in NO_NAMES:
            for call in (book.drop, book.saying, book.slice_of):
                self.assertIs(NoName, type(raised(call, bad)), bad)
            for saying in (SENT, None, (), [], {}):
                self.assertIs(NoName, type(raised(book.say, bad, saying)), bad)
        for bad in NO_SAYINGS:
            for name in ("a", "b"):
                self.assertIs(NoSaying, type(raised(book.say, name, bad)), bad)
        for name in ("b", "aa", "abcdef"):
            for call in (book.drop, book.saying, book.slice_of):
                error = raised(call, name)
                self.assertIs(Unknown, type(error))
                self.assertEqual(name, error.name)
        self.assertEqual(before, state(book))

    def test_sayings_of_hands_that_are_there(self):
        for run in RUNS:
            book = Book(run)
            for hand in range(-1, 7):
                saying = ("knows", hand, ("hand", hand, ("done", 1)))
                if 0 <= hand < len(run):
                    book.say("a", saying)
                    self.assertEqual(saying, book.saying("a"))
                else:
                    self.assertIs(NoSaying, type(raised(book.say, "b", saying)))


class Back(unittest.TestCase):

    def test_each_deed(self):
        rng = random.Random(306)
        for run in RUNS:
            book, deeds = begun_amid(rng, run)
            states, grown = [state(book)], []
            for kind in rng.choices(("grow", "grow", "say", "say", "back", "back", "back"), k=40):
                if kind == "grow" and sum(grown) < len(deeds):
                    book.grow(*deeds[sum(grown)])
                    grown.append(True)
                    states.append(state(book))
                elif kind == "say":
                    self.draw(rng, run, book)
                    grown.append(False)
                    states.append(state(book))
                elif kind == "back" and grown:
                    self.assertIsNone(book.back())
                    grown.pop()
                    states.pop()
                    self.assertEqual(states[-1], state(book))
            while grown:
                book.back()
                grown.pop()
                states.pop()
                self.assertEqual(states[-1], state(book))
            self.assertIs(NoBack, type(raised(book.back)))

    def draw(self, rng, run, book):
        name = rng.choice(NAMES)
        if name in book.names() and rng.random() < 0.4:
            book.drop(name)
        else:
            book.say(name, random_saying(rng, run, 3, 5))

    def test_all_of_sixty(self):
        rng = random.Random(307)
        book = Book(((),) * 6)
        states = [state(book)]
        for k in range(60):
            if k % 3 == 0:
                book.grow(k % 6, do(("a", k)))
            else:
                self.draw(rng, book.run(), book)
            states.append(state(book))
        for before in states[-2::-1]:
            book.back()
            self.assertEqual(before, state(book))
        for _ in range(3):
            self.assertIs(NoBack, type(raised(book.back)))
        self.assertEqual(states[0], state(book))
        book.grow(0, DO)
        book.back()
        self.assertIs(NoBack, type(raised(book.back)))

    def test_news_of_the_deed_that_then_stands_last(self):
        book = Book(FREE)
        self.assertEqual((), book.news())
        book.say("a", END)
        self.assertEqual((), book.news())
        first = book.grow(0, DO)
        self.assertEqual((("a", 7),), first)
        second = book.grow(1, send(0))
        self.assertEqual((("a", 8),), second)
        self.assertEqual(second, book.news())
        book.say("b", TRUE)
        self.assertEqual((), book.news())
        book.back()
        self.assertEqual(second, book.news())
        book.back()
        self.assertEqual(first, book.news())
        book.drop("a")
        self.assertEqual((), book.news())
        self.assertEqual((), book.grow(2, DO))
        book.back()
        self.assertEqual((), book.news())
        book.back()
        self.assertEqual(first, book.news())
        book.back()
        book.back()
        self.assertEqual((), book.news())
        self.assertIs(NoBack, type(raised(book.back)))
        self.assertEqual(Book(FREE), book)

    def test_what_is_refused_is_no_deed(self):
        book = Book(WRITTEN)
        book.say("a", SENT)
        for call, more in ((book.grow, (0, send(0))), (book.grow, (2, DO)), (book.say, ("A", SENT)),
                           (book.say, ("a", ())), (book.drop, ("b",)), (book.saying, ("b",)), (book.slice_of, ("b",))):
            self.assertIsNotNone(raised(call, *more))
        book.back()
        self.assertEqual(Book(WRITTEN), book)
        self.assertIs(NoBack, type(raised(book.back)))


class Objects(unittest.TestCase):

    def test_equal(self):
        one, other = Book(WRITTEN), Book(WRITTEN)
        self.assertIs(True, one == other)
        self.assertIs(False, one != other)
        one.say("a", SENT)
        self.assertIs(False, one == other)
        other.say("a", END)
        self.assertIs(False, one == other)
        other.say("a", SENT)
        self.assertIs(True, one == other)
        other.say("b", SENT)
        self.assertIs(False, one == other)
        other.drop("a")
        self.assertIs(False, one == other)
        other.back()
        other.back()
        self.assertIs(True, one == other)
        other.grow(0, DO)
        self.assertIs(False, one == other)
        self.assertIs(False, Book(ASKED) == Book(WRITTEN))
        self.assertIs(True, Book(ASKED) == Book(tuple(list(ASKED))))

    def test_equal_of_anything(self):
        book = Book(EMPTY)
        for thing in ODD + (EMPTY, Book, "Book(1 hands, 0 sayings)"):
            self.assertIs(False, book == thing)
            self.assertIs(True, book != thing)

    def test_len_and_repr(self):
        book = Book(((), (), ()))
        self.assertEqual((0, "Book(3 hands, 0 sayings)"), (len(book), repr(book)))
        book.say("a", TRUE)
        book.say("b", END)
        self.assertEqual((2, "Book(3 hands, 2 sayings)"), (len(book), repr(book)))
        book.say("a", END)
        self.assertEqual((2, "Book(3 hands, 2 sayings)"), (len(book), repr(book)))
        self.assertEqual("Book(1 hands, 0 sayings)", repr(Book(EMPTY)))
        self.assertEqual("Book(6 hands, 0 sayings)", str(Book(samples.MANY)))

    def test_books_are_their_own(self):
        one, other = Book(FREE), Book(FREE)
        one.say("a", SENT)
        one.grow(0, DO)
        self.assertEqual((FREE, (), ()), (other.run(), other.names(), other.news()))
        self.assertIs(NoBack, type(raised(other.back)))

    def test_refusals(self):
        check_call(self, Book, [("run", "run", WRITTEN)])
        for bad in NO_RUNS:
            self.assertIs(NoRun, type(raised(Book, bad)))

        def grow(hand, deed):
            return Book(WRITTEN).grow(hand, deed)

        def say(name, saying):
            return Book(WRITTEN).say(name, saying)

        arguments = [("hand", "hand", 1), ("deed", "growth", DO)]
        check_call(self, grow, arguments)
        check_places(self, grow, arguments)
        arguments = [("name", "name", "a"), ("saying", "saying", SENT)]
        check_call(self, say, arguments)
        check_places(self, say, arguments)
        book = Book(run=WRITTEN)
        book.say(saying=SENT, name="a")
        self.assertEqual((("a", 0),), book.grow(deed=DO, hand=1))
        self.assertEqual((SENT, slice_of(book.run(), SENT)), (book.saying(name="a"), book.slice_of(name="a")))
        book.drop(name="a")


if __name__ == "__main__":
    unittest.main()

"""Over the whole program: what the desk tells is what the modules tell, and what all moments tell.

A run that grows is told as if begun so; what is heard in whatever order tells the least moment.
"""

import random
import unittest

from mighthave.book.book import Book
from mighthave.count.counts import how_many, moment_at, moments_in
from mighthave.lots.slices import greatest_in, is_in, least_in
from mighthave.must.must import must_have, shows_must
from mighthave.papers.might import might_have
from mighthave.run.ways import is_way
from mighthave.say.sayings import meant
from mighthave.say.told import is_so, slice_of, tells
from mighthave.sums.flows import greatest_of, least_of, shows_greatest, shows_least
from mighthave.watch.watch import Watch
from mighthave.words.desk import Desk
from mighthave.words.texts import deed_text, moment_text, read_run, run_text, saying_text, slice_text, sum_text
from mighthave.words.texts import tests_text
from tests import samples
from tests.definitions import moments_by_definition, random_saying
from tests.samples import places
from tests.summed import random_sum
from tests.test_book import begun_amid, cut_off, deeds_along, random_way
from tests.test_must import drawn_tests
from tests.walked import least_of as least_of_moments

RUNS = list(samples.SMALL) + samples.random_runs(351, 100, 10)
NAMES = ("a", "b", "c", "d")


def drawn_sayings(rng, run):
    return {name: random_saying(rng, run, 4, 8) for name in NAMES}


def desk_of(run, sayings):
    desk = Desk()
    desk.say(f"run {run_text(run)}")
    for name in sayings:
        desk.say(f"say {name} {saying_text(sayings[name])}")
    return desk


def text_of(moment):
    return "none" if moment is None else moment_text(moment)


class TheDesk(unittest.TestCase):

    def test_what_the_modules_tell(self):
        rng = random.Random(352)
        for run in RUNS:
            sayings = drawn_sayings(rng, run)
            desk = desk_of(run, sayings)
            for name in NAMES:
                lot = slice_of(run, sayings[name])
                self.check_name(desk, run, name, lot)
                self.check_sums(rng, desk, run, name, lot)
            self.check_names(rng, desk, run, sayings)
            self.check_must(rng, desk, run)
            self.assertEqual("a,b,c,d", desk.say("names"))

    def check_name(self, desk, run, name, lot):
        self.assertEqual(slice_text(run, lot), desk.say(f"slice {name}"))
        self.assertEqual(text_of(least_in(run, lot)), desk.say(f"least {name}"))
        self.assertEqual(text_of(greatest_in(run, lot)), desk.say(f"greatest {name}"))
        self.assertEqual(str(how_many(run, lot)), desk.say(f"many {name}"))
        told = [desk.say(f"at {name} {number}") for number in range(how_many(run, lot))]
        self.assertEqual([moment_text(moment_at(run, lot, number)) for number in range(len(told))], told)
        for moment in moments_by_definition(run):
            answer = desk.say(f"is {name} {moment_text(moment)}")
            self.assertEqual("yes" if is_in(run, lot, moment) else "no", answer)
            self.assertIs(answer == "yes", moment_text(moment) in told)

    def check_sums(self, rng, desk, run, name, lot):
        total = random_sum(rng, run)
        greatest, least = greatest_of(run, lot, total), least_of(run, lot, total)
        answer = desk.say(f"sums {name} {sum_text(total)}")
        self.assertEqual("none" if lot is None else f"{least[0]} to {greatest[0]}", answer)
        self.assertIs(True, shows_greatest(run, lot, total, greatest))
        self.assertIs(True, shows_least(run, lot, total, least))

    def check_names(self, rng, desk, run, sayings):
        one, other = rng.choice(NAMES), rng.choice(NAMES)
        answer = desk.say(f"tells {one} {other}")
        told = tells(run, sayings[one], sayings[other])
        self.assertEqual(told[0], answer.split(" ")[0])
        if told[0] == "beyond":
            moment = tuple(map(int, answer.split(" ")[1].split(".")))
            self.assertEqual([True, False], [is_so(run, sayings[each], moment) for each in (one, other)])
        names = rng.choices(NAMES, k=rng.randint(1, 6))
        answer = desk.say(f"might {','.join(names)}")
        paper = might_have(run, tuple([sayings[name] for name in names]))
        self.assertEqual(f"might {moment_text(paper[1])}" if paper[0] == "might" else "never", answer)

    def check_must(self, rng, desk, run):
        tests = drawn_tests(rng, run)
        answer = desk.say(f"must {tests_text(tests)}")
        self.assertEqual(must_have(run, tests)[0], answer.split(" ")[0])
        if answer != "must":
            figures = answer.split(" ")[1]
            way = () if figures == "-" else tuple(map(int, figures.split(".")))
            self.assertIs(True, is_way(run, way))
            self.assertIs(True, shows_must(run, tests, ("by", way)))

    def test_what_all_moments_tell(self):
        rng = random.Random(353)
        for run in RUNS:
            sayings = drawn_sayings(rng, run)
            desk = desk_of(run, sayings)
            for name in NAMES:
                moments = meant(run, sayings[name])
                self.assertEqual(moments, moments_in(run, desk.book().slice_of(name)))
                self.assertEqual(str(len(moments)), desk.say(f"many {name}"))
                self.assertEqual(text_of(least_of_moments(moments)), desk.say(f"least {name}"))

    def test_a_run_that_grows(self):
        rng = random.Random(354)
        for run in RUNS:
            sayings = drawn_sayings(rng, run)
            whole = desk_of(run, sayings)
            way = random_way(rng, run)
            at = rng.randint(0, len(way))
            desk = desk_of(cut_off(run, [way[:at].count(hand) for hand in range(len(run))]), sayings)
            for hand, deed in list(deeds_along(run, way))[at:]:
                before = desk.book().run()
                answer = desk.say(f"grow {hand} {deed_text(deed)}")
                self.assertEqual(" , ".join([f"{name} {many}" for name, many in desk.book().news()]), answer)
                if rng.random() < 0.3:
                    desk.say("back")
                    self.assertEqual(before, desk.book().run())
                    desk.say(f"grow {hand} {deed_text(deed)}")
            self.assertEqual(whole.book(), desk.book())
            rows = [f"{word} {name}" for word in ("slice", "least", "greatest", "many") for name in NAMES]
            for row in rows + ["names", "might a,b", "might c,d", "tells a b", f"must 0 done {rng.randint(0, 3)}"]:
                self.assertEqual(whole.say(row), desk.say(row))

    def test_book_and_desk_alike(self):
        """A book begun amid a run and a desk come to the same book."""
        rng = random.Random(355)
        for run in RUNS[:40]:
            book, deeds = begun_amid(rng, run)
            desk = Desk()
            desk.say(f"run {run_text(book.run())}")
            for hand, deed in deeds:
                book.grow(hand, deed)
                desk.say(f"grow {hand} {deed_text(deed)}")
            self.assertEqual(book, desk.book())
            self.assertEqual(Book(run), book)
            self.assertEqual(run, read_run(run_text(desk.book().run())))


class TheWatch(unittest.TestCase):

    def test_as_might_have_tells(self):
        """What is told of deeds in whatever order is the least moment of all tests together."""
        rng = random.Random(356)
        told = []
        for run in RUNS:
            for _ in range(3):
                tests = drawn_tests(rng, run)
                paper = might_have(run, tuple([("hand", hand, test) for hand, test in tests]))
                watch = Watch(len(run), tests)
                for hand, place in rng.sample(places(run), len(places(run))):
                    watch.hears(hand, place, run[hand][place])
                self.assertEqual(paper[1] if paper[0] == "might" else None, watch.told())
                told.append(paper[0])
        self.assertGreater(min(told.count("might"), told.count("never")), 20)


if __name__ == "__main__":
    unittest.main()

"""Tests that serve each kind of paper alike: till and since, on and back."""

import itertools
import random

from tests.definitions import all_lots, slice_by_definition
from tests.samples import below, moments_by_definition
from tests.walked import TINY, all_deed_rows, all_hand_rows, drawn_lots, otherwise


def lots_of(rng, run, many=3):
    """Drawn lots, each as (set, slice)."""
    return [(lot, slice_by_definition(run, lot)) for lot in drawn_lots(rng, run, many)]


def pairs_of_lots(seed, runs, many=3, most=100):
    """Rows of a run and two of its lots, each as (set, slice): of each run some pairs, no more than most."""
    rng = random.Random(seed)
    for run in runs:
        lots = lots_of(rng, run, many)
        pairs = list(itertools.product(lots, repeat=2))
        for one, other in pairs if len(pairs) <= most else rng.sample(pairs, most):
            yield run, one, other


def tiny_pairs(seed, many=400):
    """All pairs of the lots of runs of few moments, of those that have very many pairs some."""
    rng = random.Random(seed)
    for run in TINY:
        lots = [(lot, slice_by_definition(run, lot)) for lot in all_lots(run)]
        pairs = list(itertools.product(lots, repeat=2))
        for one, other in pairs if len(pairs) <= many else rng.sample(pairs, many):
            yield run, one, other


class Papers:
    """The papers of till, of since: tell and shows are the program's, judge is the plain definition."""

    def __init__(self, test, tell, shows, judge):
        self.test = test
        self.tell = tell
        self.shows = shows
        self.judge = judge

    def check_told(self, run, one, other, fulfilled):
        """At each moment one that the judge lets by: a way just of the moments that are in the lot."""
        (lot, told), (also, too) = one, other
        words = []
        for moment in moments_by_definition(run):
            paper = self.tell(run, told, too, moment)
            self.test.assertIs(True, self.judge(run, lot, also, moment, paper), (run, told, too, moment, paper))
            self.test.assertIs(True, self.shows(run, told, too, moment, paper), (run, told, too, moment, paper))
            self.test.assertIs(moment in fulfilled, paper[0] == "way")
            words.append(paper[0])
        return words

    def check_thing(self, run, one, other, moment, thing):
        """The program and the judge say the same of it."""
        (lot, told), (also, too) = one, other
        right = self.judge(run, lot, also, moment, thing)
        self.test.assertIs(right, self.shows(run, told, too, moment, thing), (run, told, too, moment, thing))
        return right

    def check_all(self, run, one, other, moment):
        """All ways and all rows of deeds, right or wrong."""
        starts = moments_by_definition(run)
        deeds = all_deed_rows(run)
        things = [("knot", row) for row in deeds] + [("out",), ("beyond",), ("way",), ("knot",), (), ("out", ())]
        for hands in all_hand_rows(run, sum(map(len, run)) + 1):
            things.append(("way", hands))
            things += [("way", start, hands) for start in starts]
        return [self.check_thing(run, one, other, moment, thing) for thing in things].count(True)

    def check_otherwise(self, rng, run, one, other, most=25):
        """Told papers with one thing otherwise, papers of other moments, of the lots exchanged."""
        told = []
        moments = moments_by_definition(run)
        for moment in rng.sample(moments, min(len(moments), most)):
            paper = self.tell(run, one[1], other[1], moment)
            for _ in range(12):
                told.append(self.check_thing(run, one, other, moment, otherwise(rng, run, paper)))
            elsewhere = self.tell(run, one[1], other[1], rng.choice(moments))
            exchanged = self.tell(run, other[1], one[1], moment)
            told.append(self.check_thing(run, one, other, moment, elsewhere))
            told.append(self.check_thing(run, one, other, moment, exchanged))
        return told


class ByAllMoments:
    """Tests of till, of since: call is the program's, walked tells by all moments."""

    def check(self, run, one, other):
        (lot, told), (also, too) = one, other
        have = self.call(run, told, too)
        self.assertEqual(slice_by_definition(run, self.walked(run, lot, also)), have, (run, told, too))
        self.assertEqual(have, self.call(run, told, have))

    def test_all_lots_of_tiny_runs(self):
        for run, one, other in tiny_pairs(self.seed):
            self.check(run, one, other)

    def test_drawn_lots(self):
        for run, one, other in pairs_of_lots(self.seed, self.runs):
            self.check(run, one, other)


class PapersTold:
    """Tests of each told paper of till, of since."""

    def words_told(self, pairs):
        papers = Papers(self, self.tell, self.shows, self.judge)
        words = []
        for run, one, other in pairs:
            words += papers.check_told(run, one, other, self.walked(run, one[0], other[0]))
        return words

    def test_all_lots_of_tiny_runs(self):
        words = self.words_told(tiny_pairs(self.seed, 200))
        self.assertEqual({"way", "out", "beyond", "knot"}, set(words))

    def test_drawn_lots(self):
        words = self.words_told(pairs_of_lots(self.seed, self.runs, 2, 50))
        for word in ("way", "out", "beyond", "knot"):
            self.assertGreater(words.count(word), 15)


class PapersShown:
    """Tests of papers of till, of since, right and wrong ones."""

    def test_each_paper_of_tiny_runs(self):
        rng = drawn(self.seed)
        papers = Papers(self, self.tell, self.shows, self.judge)
        many = []
        for run in TINY[:6]:
            lots = lots_of(rng, run)
            for one, other in rng.sample(list(itertools.product(lots, repeat=2)), 16):
                for moment in moments_by_definition(run):
                    many.append(papers.check_all(run, one, other, moment))
        self.assertGreater(max(many), 2)
        self.assertEqual(1, min(many))

    def test_papers_otherwise(self):
        rng = drawn(self.seed)
        papers = Papers(self, self.tell, self.shows, self.judge)
        told = []
        for run, one, other in pairs_of_lots(self.seed, self.runs, 1, 30):
            told += papers.check_otherwise(rng, run, one, other, 4)
        self.assertGreater(told.count(True), 300)
        self.assertGreater(told.count(False), 3000)


def check_denials(test, run, one, denial, is_beside):
    """None just where all moments beside are the lot's; else any that is beside it, not the lot's."""
    lot, told = one
    moments = moments_by_definition(run)
    for moment in moments:
        beyond = [each for each in moments if is_beside(moment, each) and each not in lot]
        found = denial(run, told, moment)
        if beyond:
            test.assertIn(found, beyond)
        else:
            test.assertIsNone(found)


def is_above(moment, each):
    return below(moment, each)


def is_beneath(moment, each):
    return below(each, moment)


def drawn(seed):
    return random.Random(seed)

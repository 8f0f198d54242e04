"""Tests that serve each kind of paper alike: till and since, on and back."""

import random

from tests.definitions import slice_by_definition
from tests.samples import below, moments_by_definition
from tests.walked import all_deed_rows, all_hand_rows, drawn_lots, otherwise


def lots_of(rng, run, many=3):
    """Drawn lots, each as (set, slice)."""
    return [(lot, slice_by_definition(run, lot)) for lot in drawn_lots(rng, run, many)]


class Papers:
    """The papers of till, of since: tell and shows are the program's, judge is the plain definition."""

    def __init__(self, test, tell, shows, judge):
        self.test = test
        self.tell = tell
        self.shows = shows
        self.judge = judge

    def check_told(self, run, one, other, fulfilled):
        """At each moment one that the judge lets by: a way just of the moments that are in the lot."""
        (lot, told), (also, too) = one, other
        words = []
        for moment in moments_by_definition(run):
            paper = self.tell(run, told, too, moment)
            self.test.assertIs(True, self.judge(run, lot, also, moment, paper), (run, told, too, moment, paper))
            self.test.assertIs(True, self.shows(run, told, too, moment, paper), (run, told, too, moment, paper))
            self.test.assertIs(moment in fulfilled, paper[0] == "way")
            words.append(paper[0])
        return words

    def check_thing(self, run, one, other, moment, thing):
        """The program and the judge say the same of it."""
        (lot, told), (also, too) = one, other
        right = self.judge(run, lot, also, moment, thing)
        self.test.assertIs(right, self.shows(run, told, too, moment, thing), (run, told, too, moment, thing))
        return right

    def check_all(self, run, one, other, moment):
        """All ways and all rows of deeds, right or wrong."""
        starts = moments_by_definition(run)
        deeds = all_deed_rows(run)
        things = [("knot", row) for row in deeds] + [("out",), ("beyond",), ("way",), ("knot",), (), ("out", ())]
        for hands in all_hand_rows(run, sum(map(len, run)) + 1):
            things.append(("way", hands))
            things += [("way", start, hands) for start in starts]
        return [self.check_thing(run, one, other, moment, thing) for thing in things].count(True)

    def check_otherwise(self, rng, run, one, other, most=25):
        """Told papers with one thing otherwise, papers of other moments, of the lots exchanged."""
        told = []
        moments = moments_by_definition(run)
        for moment in rng.sample(moments, min(len(moments), most)):
            paper = self.tell(run, one[1], other[1], moment)
            for _ in range(12):
                told.append(self.check_thing(run, one, other, moment, otherwise(rng, run, paper)))
            elsewhere = self.tell(run, one[1], other[1], rng.choice(moments))
            exchanged = self.tell(run, other[1], one[1], moment)
            told.append(self.check_thing(run, one, other, moment, elsewhere))
            told.append(self.check_thing(run, one, other, moment, exchanged))
        return told


def check_denials(test, run, one, denial, is_beside):
    """None just where all moments beside are the lot's; else any that is beside it, not the lot's."""
    lot, told = one
    moments = moments_by_definition(run)
    for moment in moments:
        beyond = [each for each in moments if is_beside(moment, each) and each not in lot]
        found = denial(run, told, moment)
        if beyond:
            test.assertIn(found, beyond)
        else:
            test.assertIsNone(found)


def is_above(moment, each):
    return below(moment, each)


def is_beneath(moment, each):
    return below(each, moment)


def drawn(seed):
    return random.Random(seed)

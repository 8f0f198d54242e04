"""Slices of what is said most plainly: a hand's counts, letters under way on a road, BEGIN and END alone."""

from mighthave.errors import NoNumber, NoSaying
from mighthave.lots.firsts import slice_of_own, slice_within
from mighthave.run.pasts import need_road
from mighthave.run.runs import MOST_DEEDS, need_counts, need_hand, need_run
from mighthave.run.shapes import is_whole
from mighthave.run.steps import full_counts, joined, no_counts, sent_along, taken_along

WORDS = ("most", "least", "just")


def need_word(word):
    """Refuse what is no word of how many letters are under way."""
    if word not in WORDS:
        raise NoSaying("no such word")


def need_letters(k):
    """Refuse what is no number of letters that may be asked for."""
    if not is_whole(k, 0, MOST_DEEDS):
        raise NoNumber(k)


def slice_of_counts(own, hand, counts):
    """The slice of the moments with a count of the hand among these; own: the run's own slice."""
    pasts = own[1][hand]

    def up(moment):
        further = [count for count in counts if count >= moment[hand]]
        if further == []:
            return None
        return moment if further[0] == moment[hand] else joined(moment, pasts[further[0] - 1])

    return slice_within(own, up)


def slice_of_road(run, own, road, word, k):
    """The slice of the moments with at most, at least, just k letters under way from a hand to another one.

    own: the run's own slice; road: both hands.
    """
    one, other = road
    sent = sent_along(run, one, other)
    taken = taken_along(run, one, other)

    def up(moment):
        while moment is not None:
            gone, come = sent[moment[one]], taken[moment[other]]
            if word != "least" and gone - come > k:
                moment = with_more(moment, taken, gone - k, own[1][other])
            elif word != "most" and gone - come < k:
                moment = with_more(moment, sent, come + k, own[1][one])
            else:
                return moment
        return None

    return slice_within(own, up)


def with_more(moment, tally, many, pasts):
    """The least moment at or above this one by whose deeds of one hand the tally is so many, or None.

    pasts: those of the hand's deeds. The tally of no deed is 0, fewer than are asked for.
    """
    if many > tally[-1]:
        return None
    return joined(moment, pasts[tally.index(many) - 1])


def slice_of_begin(run):
    """The slice of BEGIN alone."""
    return (no_counts(run), tuple([(None,) * len(row) for row in run]))


def slice_of_end(run):
    """The slice of END alone."""
    end = full_counts(run)
    return (end, tuple([(end,) * len(row) for row in run]))


def hand_slice(run, hand, counts):
    """The slice of the moments with a count of the hand among these."""
    need_run(run)
    need_hand(run, hand)
    need_counts(run, hand, counts)
    return slice_of_counts(slice_of_own(run), hand, counts)


def road_slice(run, one, other, word, k):
    """The slice of the moments with at most, at least, just k letters under way on the road."""
    need_run(run)
    need_road(run, one, other)
    need_word(word)
    need_letters(k)
    return slice_of_road(run, slice_of_own(run), (one, other), word, k)


def begin_slice(run):
    """The slice of BEGIN alone."""
    need_run(run)
    return slice_of_begin(run)


def end_slice(run):
    """The slice of END alone."""
    need_run(run)
    return slice_of_end(run)

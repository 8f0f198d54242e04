"""Moments of a run, pasts of its deeds, chains between them, and letters under way."""

from mighthave.errors import NoHand, NoMoment
from mighthave.run.runs import MOST_IN_ALL, is_place, need_hand, need_place, need_run
from mighthave.run.shapes import is_row
from mighthave.run.steps import full_counts, is_under, joined, least_with, letter_taken, met, no_counts
from mighthave.run.steps import sent_along, taken_along


def has_counts(run, thing):
    """Whether it is a row of counts, one for each hand, none beyond its hand's deeds."""
    if type(thing) is not tuple or len(thing) != len(run):
        return False
    for count, row in zip(thing, run):
        if type(count) is not int or count < 0 or count > len(row):
            return False
    return True


def is_moment_of(run, thing):
    """Whether it is a moment of what was found to be a run."""
    if not has_counts(run, thing):
        return False
    for row, count in zip(run, thing):
        for act, _ in row[:count]:
            if len(act) == 3 and act[2] >= thing[act[1]]:
                return False
    return True


def need_moment(run, moment):
    """Refuse what is no moment of the run."""
    if not is_moment_of(run, moment):
        raise NoMoment("this is no moment of the run")


def need_road(run, one, other):
    """Refuse what are no two hands of the run, unlike."""
    need_hand(run, one)
    need_hand(run, other)
    if other == one:
        raise NoHand(other)


def need_run_and_moments(run, one, other):
    """Refuse what is no run, then what are no two moments of it."""
    need_run(run)
    need_moment(run, one)
    need_moment(run, other)


def need_run_and_places(run, deed, other):
    """Refuse what is no run, then what call no two deeds of it."""
    need_run(run)
    need_place(run, deed)
    need_place(run, other)


def begin_of(run):
    """The moment that has no deed."""
    need_run(run)
    return no_counts(run)


def end_of(run):
    """The moment that has all deeds."""
    need_run(run)
    return full_counts(run)


def is_moment(run, thing):
    """Whether it is a moment of the run."""
    need_run(run)
    return is_moment_of(run, thing)


def is_below(run, one, other):
    """Whether the one is at or below the other."""
    need_run_and_moments(run, one, other)
    return is_under(one, other)


def meet(run, one, other):
    """The greatest moment at or below both."""
    need_run_and_moments(run, one, other)
    return met(one, other)


def join(run, one, other):
    """The least moment at or above both."""
    need_run_and_moments(run, one, other)
    return joined(one, other)


def has(run, moment, deed):
    """Whether the moment has the deed."""
    need_run(run)
    need_moment(run, moment)
    need_place(run, deed)
    return deed[1] < moment[deed[0]]


def past_of(run, deed):
    """The least moment that has the deed."""
    need_run(run)
    need_place(run, deed)
    return least_with(run, deed)


def reaches(run, deed, other):
    """Whether the past of the other deed has this one.

    Letters are gone back along till one from this deed's hand is met: what that hand did ahead of this
    deed can't bring it.
    """
    one, place = deed
    counts = [0] * len(run)
    waiting = [other]
    while waiting:
        hand, at = waiting.pop()
        if hand == one and at >= place:
            return True
        for act, _ in run[hand][counts[hand]:at + 1]:
            if len(act) == 3:
                waiting.append(act[1:])
        counts[hand] = max(counts[hand], at + 1)
    return False


def is_known(run, deed, other):
    """Whether the deed is known to the other one."""
    need_run_and_places(run, deed, other)
    return reaches(run, deed, other)


def chain_of(run, deed, other):
    """A chain from the deed to the other one, or None where there is none."""
    need_run_and_places(run, deed, other)
    if not reaches(run, deed, other):
        return None
    backwards = [other]
    while backwards[-1] != deed:
        backwards.append(link_ahead(run, deed, backwards[-1]))
    return tuple(backwards[::-1])


def link_ahead(run, deed, last):
    """A deed that leads straight to the last one and that the first deed is known to.

    The first deed is known to the last one and is another one, so where no letter
    brings it, the deed ahead in the row does.
    """
    hand, place = last
    letter = letter_taken(run[hand][place])
    if letter is not None and reaches(run, deed, letter):
        return letter
    return (hand, place - 1)


def leads_to(run, deed, follower):
    """Whether the follower is the next deed of the row, or takes the deed's letter."""
    hand, place = follower
    return deed == (hand, place - 1) or letter_taken(run[hand][place]) == deed


def shows_chain(run, deed, other, thing):
    """Whether it is a chain from the deed to the other one."""
    need_run_and_places(run, deed, other)
    if not is_row(thing, 1, MOST_IN_ALL) or not all([is_place(run, each) for each in thing]):
        return False
    if thing[0] != deed or thing[-1] != other:
        return False
    return all([leads_to(run, each, follower) for each, follower in zip(thing, thing[1:])])


def under_way(run, one, other, moment):
    """How many letters are, at the moment, under way from the one hand to the other."""
    need_run(run)
    need_road(run, one, other)
    need_moment(run, moment)
    return sent_along(run, one, other)[moment[one]] - taken_along(run, one, other)[moment[other]]

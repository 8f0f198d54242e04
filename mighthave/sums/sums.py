"""Sums of worths, each with its weight: what they are, their worth at a moment, what each deed gains."""

from mighthave.errors import NoSum
from mighthave.run.pasts import need_moment
from mighthave.run.runs import is_name, need_run
from mighthave.run.shapes import is_row, is_whole
from mighthave.run.steps import worth_behind, worths_along

MOST_PARTS = 12
MOST_WEIGHT = 9


def is_sum_of(many, thing):
    """Whether it is a sum over so many hands."""
    if not is_row(thing, 1, MOST_PARTS) or not all([is_part(many, part) for part in thing]):
        return False
    return len(set([part[:2] for part in thing])) == len(thing)


def is_part(many, thing):
    """Whether it is a hand of so many, a name and a weight."""
    if not is_row(thing, 3, 3):
        return False
    hand, name, weight = thing
    return is_whole(hand, 0, many - 1) and is_name(name) and is_whole(weight, -MOST_WEIGHT, MOST_WEIGHT)


def need_sum(run, total):
    """Refuse what is no sum of the run's hands."""
    if not is_sum_of(len(run), total):
        raise NoSum("this is no sum of the run's hands")


def worth_together(run, total, moment):
    """The worth of the sum at the moment."""
    return sum([weight * worth_behind(run[hand][:moment[hand]], name) for hand, name, weight in total])


def gains_along(run, total):
    """For each hand a row of what each of its deeds adds to the sum."""
    gains = [[0] * len(row) for row in run]
    for hand, name, weight in total:
        worths = worths_along(run[hand], name)
        for place, (low, high) in enumerate(zip(worths, worths[1:])):
            gains[hand][place] += weight * (high - low)
    return tuple([tuple(row) for row in gains])


def is_sum(run, thing):
    """Whether it is a sum of the run's hands."""
    need_run(run)
    return is_sum_of(len(run), thing)


def sum_at(run, total, moment):
    """The worth of the sum at the moment."""
    need_run(run)
    need_sum(run, total)
    need_moment(run, moment)
    return worth_together(run, total, moment)


def gains_of(run, total):
    """For each hand a row of what each of its deeds adds to the sum, whatever stands elsewhere."""
    need_run(run)
    need_sum(run, total)
    return gains_along(run, total)

"""Slices: what they are, which moments are in them, and what they tell of their lots."""

from mighthave.errors import NoMoments, NoSlice
from mighthave.lots.firsts import down_in, greatest, lies_in, slice_of_all, slice_of_own, up_in
from mighthave.lots.walks import knots_of
from mighthave.run.pasts import has_counts, is_moment_of, need_moment
from mighthave.run.runs import need_run
from mighthave.run.shapes import is_row
from mighthave.run.steps import is_under, no_counts


def is_slice_of(run, thing):
    """Whether it is a slice of what was found to be a run."""
    if thing is None:
        return True
    if not is_row(thing, 2, 2) or not is_moment_of(run, thing[0]) or not are_rows_of_counts(run, thing[1]):
        return False
    least, firsts = thing
    return lies_in(thing, least) and all([do_firsts_rise(run, firsts, hand, least) for hand in range(len(run))])


def are_rows_of_counts(run, thing):
    """Whether it has for each hand a row with, for each deed, counts or None."""
    if not is_row(thing, len(run), len(run)):
        return False
    for firsts, row in zip(thing, run):
        if not is_row(firsts, len(row), len(row)):
            return False
        for first in firsts:
            if first is not None and not has_counts(run, first):
                return False
    return True


def do_firsts_rise(run, firsts, hand, least):
    """Whether the hand's firsts lead up from least, each with its deed, none behind a barred one."""
    ahead = least
    for place, first in enumerate(firsts[hand]):
        if first is not None:
            if ahead is None or first[hand] <= place or not leads_up(run, firsts, ahead, first):
                return False
        ahead = first
    return True


def leads_up(run, firsts, ahead, first):
    """Whether, as the one ahead is a moment and in by the look, this one is so, too, and at or above it.

    Where both have as many deeds of a hand, what the look asks of the one ahead it need not ask again.
    """
    for hand, (low, high) in enumerate(zip(ahead, first)):
        if low != high and (low > high or not may_come(run, firsts, hand, low, first)):
            return False
    return True


def may_come(run, firsts, hand, low, counts):
    """Whether, by the look and the letters taken, the counts may have more than so few deeds of the hand."""
    first = firsts[hand][counts[hand] - 1]
    if first is None or not is_under(first, counts):
        return False
    for act, _ in run[hand][low:counts[hand]]:
        if len(act) == 3 and act[2] >= counts[act[1]]:
            return False
    return True


def need_slice(run, lot):
    """Refuse what is no slice of the run."""
    if not is_slice_of(run, lot):
        raise NoSlice("this is no slice of the run")


def need_run_and_slice(run, lot):
    """Refuse what is no run, then what is no slice of it."""
    need_run(run)
    need_slice(run, lot)


def need_run_and_slices(run, one, other):
    """Refuse what is no run, then what are no two slices of it."""
    need_run_and_slice(run, one)
    need_slice(run, other)


def is_slice(run, thing):
    """Whether it is a slice of the run."""
    need_run(run)
    return is_slice_of(run, thing)


def own_slice(run):
    """The slice of all moments of the run."""
    need_run(run)
    return slice_of_own(run)


def spanned(run, moments):
    """The slice of the least lot that has all of these moments."""
    need_run(run)
    if type(moments) is not tuple or not moments or not all([is_moment_of(run, each) for each in moments]):
        raise NoMoments("no row of moments, one at least")
    return slice_of_all(run, moments)


def is_in(run, lot, moment):
    """Whether the moment is in the slice."""
    need_run_and_slice(run, lot)
    need_moment(run, moment)
    return lies_in(lot, moment)


def up_from(run, lot, moment):
    """The least moment of the lot at or above this one, or None."""
    need_run_and_slice(run, lot)
    need_moment(run, moment)
    return up_in(lot, moment)


def down_from(run, lot, moment):
    """The greatest moment of the lot at or below this one, or None."""
    need_run_and_slice(run, lot)
    need_moment(run, moment)
    return down_in(lot, moment)


def least_in(run, lot):
    """The least moment of the lot, or None."""
    need_run_and_slice(run, lot)
    return None if lot is None else lot[0]


def greatest_in(run, lot):
    """The greatest moment of the lot, or None."""
    need_run_and_slice(run, lot)
    return greatest(lot)


def barred_in(run, lot):
    """The rising deeds that no moment of the lot has."""
    need_run_and_slice(run, lot)
    ends = no_counts(run) if lot is None else greatest(lot)
    return tuple([(hand, place) for hand, row in enumerate(run) for place in range(ends[hand], len(row))])


def knots_in(run, lot):
    """The knots of the lot: rising rows of the deeds that come all at once, by their one first."""
    need_run_and_slice(run, lot)
    return tuple([deeds for _, deeds in knots_of(lot)])

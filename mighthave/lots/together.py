"""What two lots have together, what both are within, and whether one is within the other."""

from mighthave.errors import NoSlice
from mighthave.lots.firsts import down_in, lies_in, met_if_any, slice_of_own, slice_within, up_in
from mighthave.lots.slices import is_slice_of, need_run_and_slices
from mighthave.run.pasts import is_moment_of
from mighthave.run.runs import need_run
from mighthave.run.shapes import is_row
from mighthave.run.steps import met

MOST_LOTS = 4


def settled_in_both(look, one, other, moment):
    """The nearest moment of both lots to this one of the first lot, as a look up or down in either tells; or None."""
    while True:
        further = look(other, moment)
        if further is None or further == moment:
            return further
        moment, one, other = further, other, one


def up_in_both(one, other, moment):
    """The least moment of both lots at or above this one of the first lot, or None."""
    return settled_in_both(up_in, one, other, moment)


def down_in_both(one, other, moment):
    """The greatest moment of both lots at or below this one of the first lot, or None."""
    return settled_in_both(down_in, one, other, moment)


def slice_of_both(one, other):
    """The slice of the moments of both lots."""

    def up(moment):
        return up_in_both(one, other, moment)

    return slice_within(one, up)


def slice_of_each(own, lots):
    """The slice of the moments of all these lots; own: the run's own slice, told of none."""
    if not lots:
        return own
    told = lots[0]
    for lot in lots[1:]:
        told = slice_of_both(told, lot)
    return told


def slice_of_hull(one, other):
    """The slice of the least lot that has both."""
    if one is None or other is None:
        return other if one is None else one
    firsts = [hull_along(row, also) for row, also in zip(one[1], other[1])]
    return (met(one[0], other[0]), tuple(firsts))


def hull_along(row, other):
    """The firsts of a hand's deeds in the hull, by those in either lot."""
    return tuple([first if also is None else met_if_any(also, first) for first, also in zip(row, other)])


def first_beyond(one, other):
    """A moment of the one lot that isn't the other's, or None: where there is one, least or some first is."""
    if one is None:
        return None
    if not lies_in(other, one[0]):
        return one[0]
    for row in one[1]:
        for first in row:
            if first is not None and not lies_in(other, first):
                return first
    return None


def both(run, one, other):
    """The slice of the moments of both lots."""
    need_run_and_slices(run, one, other)
    return slice_of_both(one, other)


def hull(run, one, other):
    """The slice of the least lot that has both."""
    need_run_and_slices(run, one, other)
    return slice_of_hull(one, other)


def is_within(run, one, other):
    """Whether all moments of the one lot are the other's."""
    need_run_and_slices(run, one, other)
    return first_beyond(one, other) is None


def witness(run, one, other):
    """A moment of the one lot that isn't the other's, or None where the one is within the other."""
    need_run_and_slices(run, one, other)
    return first_beyond(one, other)


def shows_witness(run, one, other, thing):
    """Whether it is a moment of the one lot that isn't the other's."""
    need_run_and_slices(run, one, other)
    return is_moment_of(run, thing) and lies_in(one, thing) and not lies_in(other, thing)


def all_of(run, lots):
    """The slice of the moments of all of none to four lots: of none the own slice."""
    need_run(run)
    if not is_row(lots, 0, MOST_LOTS) or not all([is_slice_of(run, lot) for lot in lots]):
        raise NoSlice("no row of none to four slices of the run")
    return slice_of_each(slice_of_own(run), lots)

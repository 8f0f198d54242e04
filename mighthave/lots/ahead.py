"""From here on: some way along one lot till a moment of another, and all that is at or above."""

from mighthave.lots.firsts import beyond_between, greatest, lies_in, slice_of_own, slice_within, up_in
from mighthave.lots.slices import need_run_and_slice, need_run_and_slices
from mighthave.lots.together import slice_of_both, up_in_both
from mighthave.lots.walks import end_along, hands_along, is_knot_between, knots_between, knots_of
from mighthave.run.pasts import need_moment
from mighthave.run.shapes import is_row
from mighthave.run.steps import full_counts, is_under, joined


def slice_of_till(one, other):
    """The slice of the moments from which along the one lot a moment of both is come to.

    What has all knots of the way up to both comes to just that moment again: so they are looked for once.
    """
    together = slice_of_both(one, other)
    firsts = [first for first, _ in knots_of(one)]

    def up(moment):
        end = up_in(together, moment)
        if end is None:
            return None
        for first in firsts:
            if is_under(first, end):
                moment = joined(moment, first)
        return moment

    return slice_within(one, up)


def slice_of_on(own, lot):
    """The slice of the moments at or above which all are the lot's; own: the run's own slice.

    A moment together with a past must be at or above the lot's first of the same deed: so it has
    itself what that first has beyond the past.
    """
    if greatest(lot) != full_counts(own[1]):
        return None
    least = lot[0]
    for row, pasts in zip(lot[1], own[1]):
        for first, past in zip(row, pasts):
            for hand, (more, count) in enumerate(zip(first, past)):
                if more > count:
                    least = joined(least, own[1][hand][more - 1])

    def up(moment):
        return joined(moment, least)

    return slice_within(own, up)


def till(run, one, other):
    """The slice of the moments from which along the one lot a moment of both is come to, deed by deed."""
    need_run_and_slices(run, one, other)
    return slice_of_till(one, other)


def till_paper(run, one, other, moment):
    """The deeds by which along the one lot a moment of both is come to from this one, or why there are none."""
    need_run_and_slices(run, one, other)
    need_moment(run, moment)
    if not lies_in(one, moment):
        return ("out",)
    end = up_in_both(one, other, moment)
    if end is None:
        return ("beyond",)
    knots = knots_between(one, moment, end)
    if knots:
        return ("knot", knots[0])
    return ("way", hands_along(one, moment, end))


def shows_till(run, one, other, moment, thing):
    """Whether it is such a paper of the moment."""
    need_run_and_slices(run, one, other)
    need_moment(run, moment)
    if not lies_in(one, moment):
        return thing == ("out",)
    end = up_in_both(one, other, moment)
    if end is None:
        return thing == ("beyond",)
    if not is_row(thing, 2, 2):
        return False
    if thing[0] == "way":
        last = end_along(one, moment, thing[1])
        return last is not None and lies_in(other, last)
    return thing[0] == "knot" and is_knot_between(run, one, moment, end, thing[1])


def each_on(run, lot):
    """The slice of the moments at or above which all are the lot's."""
    need_run_and_slice(run, lot)
    return slice_of_on(slice_of_own(run), lot)


def on_denial(run, lot, moment):
    """A moment at or above this one that isn't the lot's, or None where all are."""
    need_run_and_slice(run, lot)
    need_moment(run, moment)
    return beyond_between(slice_of_own(run), lot, moment, full_counts(run))

"""Up to here: some way along one lot since a moment of another, and all that is at or below."""

from mighthave.lots.firsts import beyond_between, lies_in, slice_of_own, slice_within
from mighthave.lots.slices import need_run_and_slice, need_run_and_slices
from mighthave.lots.together import down_in_both, slice_of_both
from mighthave.lots.walks import end_along, hands_along, is_knot_between, knots_between, knots_of
from mighthave.run.pasts import is_moment_of, need_moment
from mighthave.run.shapes import is_row
from mighthave.run.steps import is_under, joined, no_counts


def slice_of_since(one, other):
    """The slice of the moments to which along the one lot is come from a moment of both.

    A knot of the one lot that a moment has must be had by a moment of both beneath it, too: so that moment is
    at or above the first with it of both.
    """
    together = slice_of_both(one, other)
    if together is None:
        return None
    least, firsts = together
    knots = [(first, firsts[deeds[0][0]][deeds[0][1]]) for first, deeds in knots_of(one)]

    def up(moment):
        told = joined(moment, least)
        behind = None
        while told != behind:
            behind = told
            for first, start in knots:
                if is_under(first, told):
                    if start is None:
                        return None
                    told = joined(told, start)
        return told

    return slice_within(one, up)


def slice_of_back(own, lot):
    """The slice of the moments at or below which all are the lot's; own: the run's own slice.

    All below a moment are joins of pasts: so of each of its deeds the past is the lot's first.
    """
    begin, pasts = own
    if lot is None or lot[0] != begin:
        return None
    ends = tuple([how_far_alike(row, also) for row, also in zip(pasts, lot[1])])
    return (begin, tuple([tuple([past if is_under(past, ends) else None for past in row]) for row in pasts]))


def how_far_alike(row, other):
    """How many of the two rows, from their beginning on, are the same."""
    many = 0
    for each, also in zip(row, other):
        if each != also:
            break
        many += 1
    return many


def since(run, one, other):
    """The slice of the moments to which along the one lot is come from a moment of both, deed by deed."""
    need_run_and_slices(run, one, other)
    return slice_of_since(one, other)


def since_paper(run, one, other, moment):
    """A moment of both and the deeds by which along the one lot this one is come to, or why there is none."""
    need_run_and_slices(run, one, other)
    need_moment(run, moment)
    if not lies_in(one, moment):
        return ("out",)
    start = down_in_both(one, other, moment)
    if start is None:
        return ("beyond",)
    knots = knots_between(one, start, moment)
    if knots:
        return ("knot", knots[0])
    return ("way", start, hands_along(one, start, moment))


def shows_since(run, one, other, moment, thing):
    """Whether it is such a paper of the moment."""
    need_run_and_slices(run, one, other)
    need_moment(run, moment)
    if not lies_in(one, moment):
        return thing == ("out",)
    start = down_in_both(one, other, moment)
    if start is None:
        return thing == ("beyond",)
    if is_row(thing, 3, 3):
        word, begin, hands = thing
        return word == "way" and is_in_both(run, one, other, begin) and end_along(one, begin, hands) == moment
    return is_row(thing, 2, 2) and thing[0] == "knot" and is_knot_between(run, one, start, moment, thing[1])


def is_in_both(run, one, other, thing):
    """Whether it is a moment of both lots, of anything."""
    return is_moment_of(run, thing) and lies_in(one, thing) and lies_in(other, thing)


def each_back(run, lot):
    """The slice of the moments at or below which all are the lot's."""
    need_run_and_slice(run, lot)
    return slice_of_back(slice_of_own(run), lot)


def back_denial(run, lot, moment):
    """A moment at or below this one that isn't the lot's, or None where all are."""
    need_run_and_slice(run, lot)
    need_moment(run, moment)
    return beyond_between(slice_of_own(run), lot, no_counts(run), moment)

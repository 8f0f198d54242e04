"""A run turned about, and its moments and lots so: what was ahead stands behind."""

from mighthave.lots.firsts import greatest
from mighthave.lots.slices import need_run_and_slice
from mighthave.run.pasts import need_moment
from mighthave.run.runs import need_run
from mighthave.run.steps import joined, letter_taken


def run_about(run):
    """The run turned about: a taken letter is sent by what took it, and taken by what sent it."""
    acts = [[()] * len(row) for row in run]
    for hand, row in enumerate(run):
        for place, deed in enumerate(row):
            letter = letter_taken(deed)
            if letter is not None:
                other, at = letter
                acts[hand][place] = ("send", other)
                acts[other][at] = ("take", hand, len(row) - 1 - place)
    return tuple([tuple([(act, ()) for act in row[::-1]]) for row in acts])


def moment_about(run, moment):
    """The moment turned about has what this one lacks."""
    return tuple([len(row) - count for row, count in zip(run, moment)])


def slice_about(run, lot):
    """The slice of the lot turned about.

    The first of a deed turned about is what the greatest moment of the lot without the deed comes to.
    """
    if lot is None:
        return None
    firsts = [tuple([first_about(run, lot, hand, place) for place in reversed(range(len(row)))])
              for hand, row in enumerate(run)]
    return (moment_about(run, greatest(lot)), tuple(firsts))


def first_about(run, lot, hand, place):
    """The greatest moment of the lot without the deed, turned about, or None where all have the deed.

    Firsts rise along each hand: so of each the last one without the deed tells of those ahead of it.
    """
    told = lot[0]
    if place < told[hand]:
        return None
    for row in lot[1]:
        without = [first for first in row if first is not None and first[hand] <= place]
        if without:
            told = joined(told, without[-1])
    return moment_about(run, told)


def turned(run):
    """The run turned about."""
    need_run(run)
    return run_about(run)


def turned_moment(run, moment):
    """The moment of the run turned about that has what this one lacks."""
    need_run(run)
    need_moment(run, moment)
    return moment_about(run, moment)


def turned_slice(run, lot):
    """The slice of the lot's moments turned about, of the run turned about."""
    need_run_and_slice(run, lot)
    return slice_about(run, lot)

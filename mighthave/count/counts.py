"""How many moments a lot has, which they are, and the number of each among them."""

from mighthave.errors import NoMoment, NoNumber
from mighthave.lots.firsts import lies_in
from mighthave.lots.slices import need_run_and_slice
from mighthave.run.pasts import need_moment
from mighthave.run.steps import joined
from mighthave.run.ways import MOST, all_from, need_most


def moments_of(lot, most):
    """All moments of the lot, rising, or a refusal where there are more than most.

    Each is come to from the least one by joining firsts of next deeds, hand by hand.
    """
    if lot is None:
        return ()
    least, firsts = lot

    def nexts(moment):
        ahead = [row[count] for row, count in zip(firsts, moment) if count < len(row)]
        return [joined(moment, first) for first in ahead if first is not None]

    return all_from(least, nexts, most)


def how_many(run, lot, *, most=MOST):
    """How many moments the lot has, if there are no more than most."""
    need_run_and_slice(run, lot)
    need_most(most)
    return len(moments_of(lot, most))


def moments_in(run, lot, *, most=MOST):
    """All moments of the lot, rising, if there are no more than most."""
    need_run_and_slice(run, lot)
    need_most(most)
    return moments_of(lot, most)


def moment_at(run, lot, number, *, most=MOST):
    """The moment of the lot that has this number among all, from 0, if there are no more than most."""
    need_run_and_slice(run, lot)
    if type(number) is not int or number < 0:
        raise NoNumber(number)
    need_most(most)
    moments = moments_of(lot, most)
    if number >= len(moments):
        raise NoNumber(number)
    return moments[number]


def number_of(run, lot, moment, *, most=MOST):
    """The number of the moment among all of the lot, from 0, if there are no more than most."""
    need_run_and_slice(run, lot)
    need_moment(run, moment)
    if not lies_in(lot, moment):
        raise NoMoment("this is no moment of the lot")
    need_most(most)
    return moments_of(lot, most).index(moment)

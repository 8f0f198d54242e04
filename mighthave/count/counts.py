"""How many moments a lot has, which they are, and the number of each among them."""

from mighthave.errors import NoMoment, NoNumber
from mighthave.lots.firsts import lies_in
from mighthave.lots.slices import need_run_and_slice
from mighthave.run.bits import all_bits, all_in, bits_of, lengths_of, moments_by_bits
from mighthave.run.pasts import need_moment
from mighthave.run.ways import MOST, need_most


def how_many(run, lot, *, most=MOST):
    """How many moments the lot has, if there are no more than most."""
    need_run_and_slice(run, lot)
    need_most(most)
    return 0 if lot is None else len(all_bits(lot, most))


def moments_in(run, lot, *, most=MOST):
    """All moments of the lot, rising, if there are no more than most."""
    need_run_and_slice(run, lot)
    need_most(most)
    return () if lot is None else all_in(lot, most)


def moment_at(run, lot, number, *, most=MOST):
    """The moment of the lot that has this number among all, from 0, if there are no more than most."""
    need_run_and_slice(run, lot)
    if type(number) is not int or number < 0:
        raise NoNumber(number)
    need_most(most)
    found = [] if lot is None else sorted(all_bits(lot, most))
    if number >= len(found):
        raise NoNumber(number)
    return moments_by_bits([found[number]], lengths_of(run))[0]


def number_of(run, lot, moment, *, most=MOST):
    """The number of the moment among all of the lot, from 0, if there are no more than most."""
    need_run_and_slice(run, lot)
    need_moment(run, moment)
    if not lies_in(lot, moment):
        raise NoMoment("this is no moment of the lot")
    need_most(most)
    own = bits_of(moment, lengths_of(run))
    return len([bits for bits in all_bits(lot, most) if bits < own])

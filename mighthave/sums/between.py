"""A moment of a lot at which a sum, going by steps of one, has any number between its least and its greatest."""

from mighthave.errors import NoNumber, NoSteps
from mighthave.lots.walks import hands_along, knots_of
from mighthave.run.steps import met, stepped
from mighthave.sums.flows import gains_beyond, greatest_by, need_run_slice_and_sum
from mighthave.sums.sums import gains_along, worth_together


def need_steps(run, lot, total):
    """Refuse a lot whose moments are not come to by one deed each, or a sum that a deed changes by more than one."""
    knotted = [deed for _, deeds in knots_of(lot) for deed in deeds]
    for deed, gain in gains_beyond(run, lot, total).items():
        if gain < -1 or gain > 1 or deed in knotted:
            raise NoSteps(deed)


def moment_along(run, lot, total, marks, number):
    """The first moment on the way from one of the lot to another above it at which the sum has the number, or None."""
    moment, high = marks
    gains = gains_along(run, total)
    worth = worth_together(run, total, moment)
    for hand in hands_along(lot, moment, high):
        if worth == number:
            return moment
        worth += gains[hand][moment[hand]]
        moment = stepped(moment, hand)
    return moment if worth == number else None


def between(run, lot, total, number):
    """A moment of the lot at which the sum has the number.

    From what the greatest's and the least's moments both have it is gone up to either: all numbers between are met.
    """
    need_run_slice_and_sum(run, lot, total)
    if type(number) is not int or lot is None:
        raise NoNumber(number)
    need_steps(run, lot, total)
    greatest = greatest_by(run, lot, total, 1)
    least = greatest_by(run, lot, total, -1)
    if number < least[0] or number > greatest[0]:
        raise NoNumber(number)
    low = met(least[1], greatest[1])
    moment = moment_along(run, lot, total, (low, greatest[1]), number)
    return moment_along(run, lot, total, (low, least[1]), number) if moment is None else moment

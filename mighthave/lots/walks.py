"""Going deed by deed within a lot, and the knots that keep from it.

Nothing is looked at here before it is used but what is to be judged: all else was found well by who calls.
"""

from mighthave.lots.firsts import deeds_beyond
from mighthave.run.runs import MOST_IN_ALL, is_place
from mighthave.run.shapes import is_row, is_whole
from mighthave.run.steps import is_under, stepped


def knots_of(lot):
    """The knots of the lot, rising: of each its first and the rising row of its deeds."""
    if lot is None:
        return []
    firsts = lot[1]
    knots = {}
    for hand, place in deeds_beyond(lot):
        knots.setdefault(firsts[hand][place], []).append((hand, place))
    # Deeds were gone through rising, so the knots rise, too.
    return [(first, tuple(deeds)) for first, deeds in knots.items() if len(deeds) > 1]


def knots_between(lot, low, high):
    """The knots that the higher of two moments of the lot has, the lower hasn't: of each its deeds."""
    return [deeds for first, deeds in knots_of(lot) if is_under(first, high) and not is_under(first, low)]


def is_knot_between(run, lot, low, high, thing):
    """Whether it is the rising deeds of a knot that is between two moments of the lot, of anything."""
    if not is_row(thing, 2, MOST_IN_ALL) or not all([is_place(run, each) for each in thing]):
        return False
    return thing in knots_between(lot, low, high)


def hands_along(lot, low, high):
    """The hands, deed by deed within the lot, from one moment of it to another one above.

    Where no knot is between, of what lies between some deed can always be done next and alone.
    """
    moment = low
    hands = []
    while moment != high:
        for hand, row in enumerate(lot[1]):
            while moment[hand] < high[hand] and is_under(row[moment[hand]], stepped(moment, hand)):
                moment = stepped(moment, hand)
                hands.append(hand)
    return tuple(hands)


def end_along(lot, moment, thing):
    """The moment that these hands lead to from one of the lot, deed by deed within it; None of anything else."""
    if type(thing) is not tuple:
        return None
    for hand in thing:
        if not is_whole(hand, 0, len(moment) - 1):
            return None
        row, count = lot[1][hand], moment[hand]
        moment = stepped(moment, hand)
        if count == len(row) or row[count] is None or not is_under(row[count], moment):
            return None
    return moment

"""The greatest and the least of a sum over a lot, each with a flow that shows that no moment goes beyond.

The least is the greatest of the sum with each weight's sign turned. So here a SIGN is 1 or -1, and what is told
of a sum is told of it with its weights times the sign.
"""

from mighthave.lots.firsts import deeds_beyond, lies_in
from mighthave.lots.slices import need_run_and_slice
from mighthave.run.pasts import is_moment_of
from mighthave.run.runs import is_place
from mighthave.run.shapes import is_row
from mighthave.run.steps import joined
from mighthave.sums.sums import gains_along, need_sum, worth_together


def signed(total, sign):
    """The sum with its weights times the sign."""
    return tuple([(hand, name, sign * weight) for hand, name, weight in total])


def gains_beyond(run, lot, total):
    """The gains of the deeds that some moments of the lot have, its least one hasn't."""
    gains = gains_along(run, total)
    return {(hand, place): gains[hand][place] for hand, place in deeds_beyond(lot)}


def takers_of(lot, gains):
    """For each giver, a deed that gains, the takers, deeds that lose, that its first has: it can't be had without."""
    takers = [deed for deed, gain in gains.items() if gain < 0]
    reached = {}
    for deed, gain in gains.items():
        if gain > 0:
            first = lot[1][deed[0]][deed[1]]
            reached[deed] = [(hand, place) for hand, place in takers if place < first[hand]]
    return reached


def path_on(reached, left, given):
    """Deeds, giver and taker in turn, along which more can be given, or None; and all deeds that were come to.

    From a giver it goes on to what it reaches, from a taker to who gave to it: who gave can give elsewhere.
    """
    behind = {giver: None for giver in reached if left[giver] > 0}
    waiting = list(behind)
    at = 0
    while at < len(waiting):
        deed = waiting[at]
        at += 1
        if deed in reached:
            further = reached[deed]
        elif left[deed] > 0:
            return path_back(behind, deed), behind
        else:
            further = [giver for giver in reached if given.get((giver, deed), 0) > 0]
        for each in further:
            if each not in behind:
                behind[each] = deed
                waiting.append(each)
    return None, behind


def path_back(behind, deed):
    """The deeds by which it was come to this one, itself, too, in order."""
    path = []
    while deed is not None:
        path.append(deed)
        deed = behind[deed]
    return path[::-1]


def give_along(path, left, given):
    """Give as much as can be given along the path."""
    givers, takers = path[::2], path[1::2]
    elsewhere = list(zip(givers[1:], takers))
    amount = min([left[path[0]], left[path[-1]]] + [given[pair] for pair in elsewhere])
    for pair in elsewhere:
        given[pair] -= amount
    for pair in zip(givers, takers):
        given[pair] = given.get(pair, 0) + amount
    left[path[0]] -= amount
    left[path[-1]] -= amount


def most_given(reached, gains):
    """What is given where as much is given as can be, by (giver, taker); and the deeds by which more could be."""
    left = {deed: abs(gain) for deed, gain in gains.items()}
    given = {}
    path, seen = path_on(reached, left, given)
    while path is not None:
        give_along(path, left, given)
        path, seen = path_on(reached, left, given)
    return given, seen


def greatest_by(run, lot, total, sign):
    """The greatest of the sum by this sign: its number, a moment, a flow; None of None.

    Who could give more is had, and so are the takers that it reaches, which got what they lose from none but such.
    """
    if lot is None:
        return None
    turned = signed(total, sign)
    least, firsts = lot
    gains = gains_beyond(run, lot, turned)
    reached = takers_of(lot, gains)
    given, seen = most_given(reached, gains)
    moment = least
    for hand, place in seen:
        moment = joined(moment, firsts[hand][place])
    flow = [(giver, taker, amount) for (giver, taker), amount in given.items() if amount > 0]
    return (worth_together(run, total, moment), moment, tuple(sorted(flow)))


def is_flow(run, lot, gains, thing):
    """Whether it is a flow of these gains of deeds, of anything."""
    if type(thing) is not tuple or not all([is_gift(run, lot, gains, each) for each in thing]):
        return False
    if not all([one[:2] < other[:2] for one, other in zip(thing, thing[1:])]):
        return False
    left = {deed: abs(gain) for deed, gain in gains.items()}
    for giver, taker, amount in thing:
        left[giver] -= amount
        left[taker] -= amount
    return all([amount >= 0 for amount in left.values()])


def is_gift(run, lot, gains, thing):
    """Whether it is a giver, a taker that the giver's first has, and an amount, whatever else is given."""
    if not is_row(thing, 3, 3):
        return False
    giver, taker, amount = thing
    if not is_place(run, giver) or not is_place(run, taker) or type(amount) is not int or amount < 1:
        return False
    if gains.get(giver, 0) <= 0 or gains.get(taker, 0) >= 0:
        return False
    return taker[1] < lot[1][giver[0]][giver[1]][taker[0]]


def shows_by(run, lot, total, sign, thing):
    """Whether it is the greatest of the sum by this sign, of anything."""
    if lot is None or thing is None:
        return lot is None and thing is None
    if not is_row(thing, 3, 3):
        return False
    number, moment, flow = thing
    if type(number) is not int or not is_moment_of(run, moment) or not lies_in(lot, moment):
        return False
    turned = signed(total, sign)
    gains = gains_beyond(run, lot, turned)
    if number != worth_together(run, total, moment) or not is_flow(run, lot, gains, flow):
        return False
    most = worth_together(run, turned, lot[0]) + sum([gain for gain in gains.values() if gain > 0])
    return sign * number == most - sum([amount for _, _, amount in flow])


def need_run_slice_and_sum(run, lot, total):
    """Refuse what is no run, then what is no slice of it, then what is no sum of its hands."""
    need_run_and_slice(run, lot)
    need_sum(run, total)


def greatest_of(run, lot, total):
    """The greatest worth of the sum at the lot's moments, one of these, and a flow; None of None."""
    need_run_slice_and_sum(run, lot, total)
    return greatest_by(run, lot, total, 1)


def least_of(run, lot, total):
    """The least worth of the sum at the lot's moments, one of these, and a flow; None of None."""
    need_run_slice_and_sum(run, lot, total)
    return greatest_by(run, lot, total, -1)


def shows_greatest(run, lot, total, thing):
    """Whether it is the greatest worth of the sum, a moment with it, and a flow that shows that none has more."""
    need_run_slice_and_sum(run, lot, total)
    return shows_by(run, lot, total, 1, thing)


def shows_least(run, lot, total, thing):
    """Whether it is the least worth of the sum, a moment with it, and a flow that shows that none has less."""
    need_run_slice_and_sum(run, lot, total)
    return shows_by(run, lot, total, -1, thing)

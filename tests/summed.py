"""What the document says of sums over lots, word for word, and drawn sums and papers to try it on.

Nothing here calls the program: what it tells is held against this. Lots are sets of moments here.
"""

import itertools

from tests.definitions import NAMES, drawn_like, is_counts_by_definition, slice_by_definition, worth_by_definition
from tests.samples import places
from tests.walked import least_of


def random_sum(rng, run, weights=tuple(range(-9, 10)), most=12):
    pool = list(itertools.product(range(len(run)), NAMES))
    parts = rng.sample(pool, rng.randint(1, min(most, len(pool))))
    return tuple([(hand, name, rng.choice(weights)) for hand, name in parts])


def sum_by_definition(run, total, moment):
    return sum(weight * worth_by_definition(run[hand], moment[hand], name) for hand, name, weight in total)


def gain_by_definition(run, total, deed):
    """How much the sum differs at the deed's hand, no other hand having done a thing."""
    hand, place = deed
    low, high = [tuple([count if each == hand else 0 for each in range(len(run))]) for count in (place, place + 1)]
    return sum_by_definition(run, total, high) - sum_by_definition(run, total, low)


def open_gains(run, lot, total, sign):
    """By [25] the gains, with this sign, of the deeds that aren't in the slice's least nor barred."""
    least = least_of(lot)
    told = {}
    for hand, place in places(run):
        if place >= least[hand] and any(moment[hand] > place for moment in lot):
            told[hand, place] = sign * gain_by_definition(run, total, (hand, place))
    return told


def is_whole_number(thing):
    return type(thing) is int


def is_deed_called(run, thing):
    return (type(thing) is tuple and len(thing) == 2 and all(map(is_whole_number, thing)) and thing in places(run))


def is_flow_by_definition(run, lot, total, sign, thing):
    if type(thing) is not tuple:
        return False
    for row in thing:
        if type(row) is not tuple or len(row) != 3 or not all(is_deed_called(run, deed) for deed in row[:2]):
            return False
        if not is_whole_number(row[2]) or row[2] < 1:
            return False
    if list(thing) != sorted(set(thing)) or len({row[:2] for row in thing}) < len(thing):
        return False
    gains = open_gains(run, lot, total, sign)
    firsts = slice_by_definition(run, lot)[1]
    for giver, taker, _ in thing:
        if giver not in gains or taker not in gains or gains[giver] <= 0 or gains[taker] >= 0:
            return False
        if firsts[giver[0]][giver[1]][taker[0]] <= taker[1]:
            return False
        if sum(row[2] for row in thing if row[0] == giver) > gains[giver]:
            return False
        if sum(row[2] for row in thing if row[1] == taker) > -gains[taker]:
            return False
    return True


def is_paper_by_definition(run, lot, total, sign, thing):
    """Word for word by [25], of anything: sign 1 of the greatest, -1 of the least."""
    if not lot or thing is None:
        return not lot and thing is None
    if type(thing) is not tuple or len(thing) != 3:
        return False
    number, moment, flow = thing
    if not is_whole_number(number) or not is_counts_by_definition(run, moment) or moment not in lot:
        return False
    if number != sum_by_definition(run, total, moment) or not is_flow_by_definition(run, lot, total, sign, flow):
        return False
    gains = open_gains(run, lot, total, sign).values()
    ups = sum(gain for gain in gains if gain > 0)
    given = sum(amount for _, _, amount in flow)
    return number == sum_by_definition(run, total, least_of(lot)) + sign * (ups - given)


def flows_otherwise(rng, run, flow):
    """The flow with an amount otherwise, 0, giver and taker exchanged, rows out, put in, twice, not rising."""
    deeds = places(run) + [(len(run), 0), (0, len(run[0])), (-1, 0)]
    more = (rng.choice(deeds), rng.choice(deeds), rng.randint(1, 3))
    yield flow + (more,)
    yield tuple(sorted(flow + (more,)))
    if not flow:
        return
    at = rng.randrange(len(flow))
    giver, taker, amount = flow[at]
    rows = [
        (giver, taker, amount + 1), (giver, taker, amount - 1), (giver, taker, 0), (giver, taker, -amount),
        (taker, giver, amount), (rng.choice(deeds), taker, amount), (giver, rng.choice(deeds), amount),
        (list(giver), taker, amount), (giver, taker, True), (giver, taker), (giver, taker, amount, amount), None,
        [giver, taker, amount], (giver, giver, amount), (giver, taker, str(amount)), (None, taker, amount),
    ]
    for row in rows:
        yield flow[:at] + (row,) + flow[at + 1:]
    for row in rng.sample(rows[:7], 2):
        changed = flow[:at] + (row,) + flow[at + 1:]
        yield tuple(sorted(changed))
    yield flow[:at] + flow[at + 1:]
    yield flow[:at] + (flow[at],) + flow[at:]
    yield flow[:at] + ((giver, taker, 1), (giver, taker, amount - 1)) + flow[at + 1:]
    yield flow[:at] + ((giver, taker, amount - 1), (giver, taker, 1)) + flow[at + 1:]
    yield flow[::-1]
    yield list(flow)


def papers_otherwise(rng, run, lot, paper):
    """The paper with each thing in it otherwise."""
    number, moment, flow = paper
    for other in (number + 1, number - 1, -number, str(number), None, bool(number), (number,)):
        yield (other, moment, flow)
    moments = drawn_like(rng, run, lot)
    for other in moments + [None, (), list(moment), moment[:-1], moment + (0,), tuple(map(str, moment))]:
        yield (number, other, flow)
    for other in flows_otherwise(rng, run, flow):
        yield (number, moment, other)
    yield from (list(paper), paper[:2], paper + (flow,), paper[::-1], None, (), flow, (paper,))
    for other in (None, (), True, "", {}, 0):
        yield (number, moment, other)

"""Lots of small runs, and what the document says of two of them, looked for by walking over all moments.

Nothing here calls the program: what it tells is held against this. Lots are sets of moments here.
"""

import itertools

from tests.definitions import ROAD_WORDS, fits_road, is_counts_by_definition, meaning, random_lots, random_saying
from tests.samples import DO, EMPTY, WRITTEN, below, moments_by_definition, places, send, take

# Runs of so few moments that each of their lots can be looked at.
TINY = (
    EMPTY, WRITTEN, ((DO,), (DO,)), ((DO, DO),), ((send(1),), (take(0, 0),)), ((send(1),), (DO, take(0, 0))),
    ((DO, DO), (DO,)),
)


def drawn_lots(rng, run, many=3):
    """All, none, such as some moments span, of one moment, of a hand's counts, a road, between two moments, sayings."""
    moments = moments_by_definition(run)
    lots = random_lots(rng, run, many) + [{rng.choice(moments)}]
    hand = rng.randrange(len(run))
    counts = rng.sample(range(len(run[hand]) + 1), rng.randint(1, len(run[hand]) + 1))
    lots.append({moment for moment in moments if moment[hand] in counts})
    if len(run) > 1:
        road = (*rng.sample(range(len(run)), 2), rng.choice(ROAD_WORDS), rng.choice((0, 1, 1, 2)))
        lots.append({moment for moment in moments if fits_road(run, moment, *road)})
    low, high = sorted([rng.choice(moments), rng.choice(moments)], key=sum)
    lots.append({moment for moment in moments if below(low, moment) and below(moment, high)})
    if len(moments) <= 40:
        lots.append(meaning(run, random_saying(rng, run, 3, 6)))
    return lots


def with_more(run, moments):
    """For each of the moments those with one deed more."""
    told = {}
    for moment in moments:
        further = [moment[:hand] + (moment[hand] + 1,) + moment[hand + 1:] for hand in range(len(run))]
        told[moment] = [each for each in further if each in moments]
    return told


def till_by_walking(run, one, other):
    """From where along the one lot a moment of both is come to, deed by deed."""
    moments = moments_by_definition(run)
    further = with_more(run, set(moments))
    found = one & other
    for moment in sorted(moments, key=sum, reverse=True):
        if moment in one and any(each in found for each in further[moment]):
            found = found | {moment}
    return found


def since_by_walking(run, one, other):
    """To where along the one lot is come from a moment of both, deed by deed."""
    moments = moments_by_definition(run)
    further = with_more(run, set(moments))
    found = one & other
    for moment in sorted(moments, key=sum):
        if moment in found:
            found = found | {each for each in further[moment] if each in one}
    return found


def all_above(run, lot):
    moments = moments_by_definition(run)
    return {moment for moment in moments if all(each in lot for each in moments if below(moment, each))}


def all_below(run, lot):
    moments = moments_by_definition(run)
    return {moment for moment in moments if all(each in lot for each in moments if below(each, moment))}


def least_of(moments):
    """The one at or below all others, or None."""
    return next((one for one in moments if all(below(one, other) for other in moments)), None)


def greatest_of(moments):
    """The one at or above all others, or None."""
    return next((one for one in moments if all(below(other, one) for other in moments)), None)


def knots_by_definition(run, lot):
    """Rising rows of two or more deeds that the lot's moments have all together, none of them in all moments."""
    coming = {}
    for hand, place in places(run):
        with_it = frozenset([moment for moment in lot if moment[hand] > place])
        if with_it and with_it != lot:
            coming.setdefault(with_it, []).append((hand, place))
    return sorted([tuple(knot) for knot in coming.values() if len(knot) > 1])


def has_all(moment, deeds):
    return all(moment[hand] > place for hand, place in deeds)


def has_none(moment, deeds):
    return all(moment[hand] <= place for hand, place in deeds)


def is_deeds_row(run, thing):
    """Whether it is a row of deeds' (hand, place), of anything."""
    if type(thing) is not tuple:
        return False
    for each in thing:
        if type(each) is not tuple or len(each) != 2 or type(each[0]) is not int or type(each[1]) is not int:
            return False
        if each not in places(run):
            return False
    return True


def come_to(run, lot, moment, hands):
    """Where the hands lead from the moment, deed by deed in the lot, or None; of anything."""
    if type(hands) is not tuple or moment not in lot:
        return None
    for hand in hands:
        if type(hand) is not int or not 0 <= hand < len(run):
            return None
        moment = moment[:hand] + (moment[hand] + 1,) + moment[hand + 1:]
        if moment not in lot:
            return None
    return moment


def is_till_paper(run, one, other, moment, thing):
    """Word for word by [14], of anything."""
    if type(thing) is not tuple:
        return False
    if moment not in one:
        return thing == ("out",)
    above = [each for each in one & other if below(moment, each)]
    if not above:
        return thing == ("beyond",)
    if len(thing) != 2:
        return False
    word, rest = thing
    if word == "way":
        return come_to(run, one, moment, rest) in above
    return word == "knot" and is_knot_between(run, one, moment, least_of(above), rest)


def is_since_paper(run, one, other, moment, thing):
    """Word for word by [16], of anything."""
    if type(thing) is not tuple:
        return False
    if moment not in one:
        return thing == ("out",)
    under = [each for each in one & other if below(each, moment)]
    if not under:
        return thing == ("beyond",)
    if len(thing) == 3:
        word, start, hands = thing
        if word != "way" or not is_counts_by_definition(run, start) or start not in one & other:
            return False
        return come_to(run, one, start, hands) == moment
    return len(thing) == 2 and thing[0] == "knot" and is_knot_between(run, one, greatest_of(under), moment, thing[1])


def is_knot_between(run, lot, low, high, thing):
    return (is_deeds_row(run, thing) and thing in knots_by_definition(run, lot) and has_all(high, thing)
            and has_none(low, thing))


def all_hand_rows(run, most):
    """All rows of at most so many hands of the run."""
    return [row for many in range(most + 1) for row in itertools.product(range(len(run)), repeat=many)]


def all_deed_rows(run):
    """All rows of unlike deeds of the run, in each order."""
    return [row for many in range(len(places(run)) + 1) for row in itertools.permutations(places(run), many)]


def otherwise(rng, run, thing):
    """What is told, with one thing in it otherwise: out, put in, exchanged, of another kind."""
    if type(thing) is tuple and thing and rng.random() < 0.8:
        at = rng.randrange(len(thing))
        kind = rng.choice(("in", "in", "in", "in", "in", "out", "twice", "list", "back", "more"))
        if kind == "in":
            return thing[:at] + (otherwise(rng, run, thing[at]),) + thing[at + 1:]
        if kind == "out":
            return thing[:at] + thing[at + 1:]
        if kind == "twice":
            return thing[:at] + (thing[at],) + thing[at:]
        if kind == "more":
            return thing[:at] + (rng.choice((0, 1, (), None, (0, 0), (1, 0), "way")),) + thing[at:]
        return list(thing) if kind == "list" else thing[::-1]
    if type(thing) is int:
        return rng.choice((thing + 1, thing + 1, thing - 1, bool(thing), str(thing), rng.randrange(len(run)), (thing,)))
    return rng.choice((
        "way", "knot", "out", "beyond", "", None, True, 0, (), [], ("out",), ("beyond",), (0,), (0, 1), {},
        ("way", ()), ("knot", ()), "might", "never", "tells", ("tells",),
    ))

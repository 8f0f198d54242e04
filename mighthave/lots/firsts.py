"""What a slice tells of its lot: the moments in it, up, down, the greatest; and slices of lots within one.

Nothing is looked at here before it is used: what is handed in was found well by who calls.
A row of firsts of one hand rises, and has None behind all others: so its last one that counts tells of all.
"""

from mighthave.run.steps import is_under, joined, met, no_counts, pasts_along


def lies_in(lot, moment):
    """Whether the moment is in the lot, by the look that [10] tells."""
    if lot is None or not is_under(lot[0], moment):
        return False
    for row, count in zip(lot[1], moment):
        if count > 0:
            first = row[count - 1]
            if first is None or not is_under(first, moment):
                return False
    return True


def up_in(lot, moment):
    """The least moment of the lot at or above this one, or None."""
    if lot is None:
        return None
    told = lot[0]
    for row, count in zip(lot[1], moment):
        if count > 0:
            first = row[count - 1]
            if first is None:
                return None
            told = joined(told, first)
    return told


def down_in(lot, moment):
    """The greatest moment of the lot at or below this one, or None."""
    if lot is None or not is_under(lot[0], moment):
        return None
    told = lot[0]
    for row, count in zip(lot[1], moment):
        for first in row[:count]:
            if first is None or not is_under(first, moment):
                break
            told = joined(told, first)
    return told


def greatest(lot):
    """The greatest moment of the lot, or None: it has all deeds that are not barred."""
    if lot is None:
        return None
    return tuple([len(row) - row.count(None) for row in lot[1]])


def deeds_beyond(lot):
    """The rising deeds that some moments of the lot have, its least one hasn't."""
    most = greatest(lot)
    return [(hand, place) for hand, count in enumerate(lot[0]) for place in range(count, most[hand])]


def beyond_between(own, lot, low, high):
    """A moment from low to high that isn't the lot's, or None where all are; own: the run's own slice.

    All between are joins of low with pasts: so low must be the lot's, and with the past of each further deed
    it must be at or above the lot's first of that deed.
    """
    if not lies_in(lot, low):
        return low
    for pasts, firsts, count, most in zip(own[1], lot[1], low, high):
        for past, first in zip(pasts[count:most], firsts[count:most]):
            higher = joined(low, past)
            if first is None or not is_under(first, higher):
                return higher
    return None


def slice_of_own(run):
    """The slice of all moments of the run."""
    return (no_counts(run), pasts_along(run))


def slice_within(lot, up):
    """The slice of a lot within this one.

    up: tells of a moment of this lot the least one of the other at or above it, or None.
    """
    if lot is None:
        return None
    least = up(lot[0])
    if least is None:
        return None
    return (least, tuple([ups_along(row, least, up) for row in lot[1]]))


def ups_along(row, least, up):
    """The firsts along a hand in the lot that has this least moment and is within the lot of the row.

    They rise: so what is above one of the row's firsts and above the one ahead is looked for once for both.
    """
    ups = []
    told = least
    for first in row:
        if first is None or told is None:
            told = None
        elif not is_under(first, told):
            told = up(joined(first, told))
        ups.append(told)
    return tuple(ups)


def slice_of_all(run, moments):
    """The slice of the least lot that has all of the moments, one at least."""
    least = moments[0]
    for moment in moments:
        least = met(least, moment)
    return (least, tuple([firsts_among(moments, hand, len(row)) for hand, row in enumerate(run)]))


def firsts_among(moments, hand, many):
    """For each of the hand's deeds, how many they are, the meet of all moments that have it, or None."""
    firsts = [None] * many
    for moment in moments:
        count = moment[hand]
        if count > 0:
            firsts[count - 1] = met_if_any(moment, firsts[count - 1])
    for place in reversed(range(many - 1)):
        if firsts[place + 1] is not None:
            firsts[place] = met_if_any(firsts[place + 1], firsts[place])
    return tuple(firsts)


def met_if_any(moment, other):
    """The meet of both, or the moment where there is no other."""
    return moment if other is None else met(moment, other)

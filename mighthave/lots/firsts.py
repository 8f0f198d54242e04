"""What a slice tells of its lot: the moments in it, up, down, the greatest; and slices made of what is up.

Nothing is looked at here before it is used: what is handed in was found well by who calls.
A row of firsts of one hand rises, and has None behind all others: so its last one that counts tells of all.
"""

from mighthave.run.steps import is_under, joined, met, no_counts


def lies_in(lot, moment):
    """Whether the moment is in the lot, by the look that [10] tells."""
    if lot is None or not is_under(lot[0], moment):
        return False
    for row, count in zip(lot[1], moment):
        if count > 0:
            first = row[count - 1]
            if first is None or not is_under(first, moment):
                return False
    return True


def up_in(lot, moment):
    """The least moment of the lot at or above this one, or None."""
    if lot is None:
        return None
    told = lot[0]
    for row, count in zip(lot[1], moment):
        if count > 0:
            first = row[count - 1]
            if first is None:
                return None
            told = joined(told, first)
    return told


def down_in(lot, moment):
    """The greatest moment of the lot at or below this one, or None."""
    if lot is None or not is_under(lot[0], moment):
        return None
    told = lot[0]
    for row, count in zip(lot[1], moment):
        for first in row[:count]:
            if first is None or not is_under(first, moment):
                break
            told = joined(told, first)
    return told


def greatest(lot):
    """The greatest moment of the lot, or None: it has all deeds that are not barred."""
    if lot is None:
        return None
    return tuple([len(row) - row.count(None) for row in lot[1]])


def slice_by(pasts, up):
    """The slice of a lot, by what tells of a moment the least one of the lot at or above it, or None.

    pasts: those of the run's deeds, for each hand a row.
    """
    least = up(no_counts(pasts))
    if least is None:
        return None
    return (least, tuple([tuple([up(past) for past in row]) for row in pasts]))


def slice_of_all(run, moments):
    """The slice of the least lot that has all of the moments, one at least."""
    least = moments[0]
    for moment in moments:
        least = met(least, moment)
    return (least, tuple([firsts_among(moments, hand, len(row)) for hand, row in enumerate(run)]))


def firsts_among(moments, hand, many):
    """For each of the hand's deeds, how many they are, the meet of all moments that have it, or None."""
    firsts = [None] * many
    for moment in moments:
        count = moment[hand]
        if count > 0:
            firsts[count - 1] = met_if_any(moment, firsts[count - 1])
    for place in reversed(range(many - 1)):
        if firsts[place + 1] is not None:
            firsts[place] = met_if_any(firsts[place + 1], firsts[place])
    return tuple(firsts)


def met_if_any(moment, other):
    """The meet of both, or the moment where there is no other."""
    return moment if other is None else met(moment, other)

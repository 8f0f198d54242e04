"""How deeds lead from count to count.

Nothing is looked at here before it is used: what is handed in was found well by who calls.
So an act is known by its length: nothing has 0, a sending 2, a take 3.
"""


def letter_taken(deed):
    """The (hand, place) of the deed whose letter it takes, or None."""
    act = deed[0]
    return act[1:] if len(act) == 3 else None


def letter_sent(deed):
    """The hand that it sends a letter to, or None."""
    act = deed[0]
    return act[1] if len(act) == 2 else None


def no_counts(run):
    """The counts of BEGIN."""
    return (0,) * len(run)


def full_counts(run):
    """The counts of END."""
    return tuple([len(row) for row in run])


def taker_of(run, deed):
    """The deed that takes the letter of this one, or None."""
    hand, place = deed
    other = letter_sent(run[hand][place])
    if other is None:
        return None
    taking = ("take", hand, place)
    for at, (act, _) in enumerate(run[other]):
        if act == taking:
            return (other, at)
    return None


def is_ready(run, counts, hand):
    """Whether the hand has a next deed behind these counts and need not wait for a letter."""
    place = counts[hand]
    if place == len(run[hand]):
        return False
    letter = letter_taken(run[hand][place])
    return letter is None or letter[1] < counts[letter[0]]


def stepped(moment, hand):
    """The counts with one more deed of the hand."""
    return moment[:hand] + (moment[hand] + 1,) + moment[hand + 1:]


def hands_between(run, low, high):
    """The hands, deed by deed, from one moment to another one at or above it.

    Of what lies between two moments some deed can always be done next, so this comes to high.
    """
    counts = list(low)
    hands = []
    while tuple(counts) != high:
        for hand in range(len(run)):
            while counts[hand] < high[hand] and is_ready(run, counts, hand):
                counts[hand] += 1
                hands.append(hand)
    return tuple(hands)


def least_with(run, deed):
    """The least moment that has the deed."""
    counts = [0] * len(run)
    waiting = [deed]
    while waiting:
        hand, place = waiting.pop()
        for act, _ in run[hand][counts[hand]:place + 1]:
            if len(act) == 3:
                waiting.append(act[1:])
        counts[hand] = max(counts[hand], place + 1)
    return tuple(counts)


def is_under(one, other):
    """Whether no count of the one is greater than the other's."""
    for low, high in zip(one, other):
        if low > high:
            return False
    return True

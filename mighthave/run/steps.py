"""How deeds lead from count to count.

Nothing is looked at here before it is used: what is handed in was found well by who calls.
So an act is known by its length: nothing has 0, a sending 2, a take 3.
"""


def letter_taken(deed):
    """The (hand, place) of the deed whose letter it takes, or None."""
    act = deed[0]
    return act[1:] if len(act) == 3 else None


def letter_sent(deed):
    """The hand that it sends a letter to, or None."""
    act = deed[0]
    return act[1] if len(act) == 2 else None


def worths_along(row, name):
    """The numbers that the name has behind none of the deeds, behind the first, and so on."""
    worth = 0
    worths = [worth]
    for _, sets in row:
        for each, number in sets:
            if each == name:
                worth = number
        worths.append(worth)
    return worths


def worth_behind(row, name):
    """The number that the name has behind all of these deeds."""
    for _, sets in reversed(row):
        for each, number in sets:
            if each == name:
                return number
    return 0


def no_counts(run):
    """The counts of BEGIN."""
    return (0,) * len(run)


def full_counts(run):
    """The counts of END."""
    return tuple([len(row) for row in run])


def taker_of(run, deed):
    """The deed that takes the letter of this one, or None."""
    hand, place = deed
    other = letter_sent(run[hand][place])
    if other is None:
        return None
    taking = ("take", hand, place)
    for at, (act, _) in enumerate(run[other]):
        if act == taking:
            return (other, at)
    return None


def is_ready(run, counts, hand):
    """Whether the hand has a next deed behind these counts and need not wait for a letter."""
    place = counts[hand]
    if place == len(run[hand]):
        return False
    letter = letter_taken(run[hand][place])
    return letter is None or letter[1] < counts[letter[0]]


def stepped(moment, hand):
    """The counts with one more deed of the hand."""
    return moment[:hand] + (moment[hand] + 1,) + moment[hand + 1:]


def lowered(moment, hand):
    """The counts with one deed fewer of the hand."""
    return moment[:hand] + (moment[hand] - 1,) + moment[hand + 1:]


def hands_between(run, low, high):
    """The hands, deed by deed, from one moment to another one at or above it.

    Of what lies between two moments some deed can always be done next, so this comes to high.
    """
    counts = list(low)
    hands = []
    while tuple(counts) != high:
        for hand in range(len(run)):
            while counts[hand] < high[hand] and is_ready(run, counts, hand):
                counts[hand] += 1
                hands.append(hand)
    return tuple(hands)


def least_with(run, deed):
    """The least moment that has the deed."""
    counts = [0] * len(run)
    waiting = [deed]
    while waiting:
        hand, place = waiting.pop()
        for act, _ in run[hand][counts[hand]:place + 1]:
            if len(act) == 3:
                waiting.append(act[1:])
        counts[hand] = max(counts[hand], place + 1)
    return tuple(counts)


def is_under(one, other):
    """Whether no count of the one is greater than the other's."""
    for low, high in zip(one, other):
        if low > high:
            return False
    return True


def joined(one, other):
    """The greater count of both at each hand."""
    return tuple([low if low > high else high for low, high in zip(one, other)])


def met(one, other):
    """The lesser count of both at each hand."""
    return tuple([low if low < high else high for low, high in zip(one, other)])


def pasts_along(run):
    """For each hand a row of its deeds' pasts."""
    pasts = [[] for _ in run]
    for hand in hands_between(run, no_counts(run), full_counts(run)):
        place = len(pasts[hand])
        past = pasts[hand][-1] if place > 0 else no_counts(run)
        letter = letter_taken(run[hand][place])
        if letter is not None:
            past = joined(past, pasts[letter[0]][letter[1]])
        pasts[hand].append(stepped(past, hand))
    return tuple([tuple(row) for row in pasts])


def sent_along(run, one, other):
    """How many letters to the other hand the one sends by none of its deeds, by the first, and so on."""
    return tallies([act == ("send", other) for act, _ in run[one]])


def taken_along(run, one, other):
    """How many letters of the one hand the other takes by none of its deeds, by the first, and so on."""
    return tallies([len(act) == 3 and act[1] == one for act, _ in run[other]])


def tallies(truths):
    """How many hold of none of them, of the first, of the first two, and so on."""
    tally = [0]
    for truth in truths:
        tally.append(tally[-1] + 1 if truth else tally[-1])
    return tally

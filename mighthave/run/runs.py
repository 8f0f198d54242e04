"""Names, deeds and runs: what they are, and what a run's deeds set and send."""

from mighthave.errors import NoCounts, NoHand, NoName, NoNumber, NoPlace, NoRun
from mighthave.run.shapes import is_row, is_whole
from mighthave.run.steps import taker_of, worths_along

MOST_HANDS = 6
MOST_DEEDS = 12
MOST_IN_ALL = 48
MOST_SETS = 3
MOST_LETTERS = 6
MOST_WORTH = 99
LETTERS = "abcdefghijklmnopqrstuvwxyz"


def is_name(thing):
    """Whether it is a text of one to six small letters."""
    return type(thing) is str and 1 <= len(thing) <= MOST_LETTERS and not thing.strip(LETTERS)


def is_deed(thing):
    """Whether it has the form of a deed, whatever run it is to stand in."""
    return are_deeds((thing,))


def are_deeds(things):
    """Whether each one of a row has the form of a deed.

    Whoever hands in a run has all its deeds looked at: so here, and in what this asks, nothing is
    called that can be done without, and no more is asked of an act or of sets that are ().
    """
    for thing in things:
        if type(thing) is not tuple or len(thing) != 2:
            return False
        act, sets = thing
        if act != () and not is_act(act) or sets != () and not are_sets(sets):
            return False
    return True


def is_act(thing):
    """Whether it has the form of a sending or a take."""
    if type(thing) is not tuple:
        return False
    if len(thing) == 2:
        word, hand = thing
        return word == "send" and type(hand) is int and 0 <= hand < MOST_HANDS
    if len(thing) == 3:
        word, hand, place = thing
        if word != "take" or type(hand) is not int or type(place) is not int:
            return False
        return 0 <= hand < MOST_HANDS and 0 <= place < MOST_DEEDS
    return False


def are_sets(thing):
    """Whether it has the form of what a deed sets."""
    if type(thing) is not tuple or len(thing) > MOST_SETS:
        return False
    ahead = ""
    for pair in thing:
        if type(pair) is not tuple or len(pair) != 2:
            return False
        name, number = pair
        if type(number) is not int or not 0 <= number <= MOST_WORTH:
            return False
        if type(name) is not str or not ahead < name or len(name) > MOST_LETTERS or name.strip(LETTERS):
            return False
        ahead = name
    return True


def is_run(thing):
    """Whether it is a run."""
    if not is_row(thing, 1, MOST_HANDS):
        return False
    many = 0
    for row in thing:
        if not is_hands_row(row):
            return False
        many += len(row)
    return many <= MOST_IN_ALL and do_letters_fit(thing)


def is_hands_row(thing):
    """Whether it is a row of deeds by their forms."""
    return is_row(thing, 0, MOST_DEEDS) and are_deeds(thing)


def do_letters_fit(rows):
    """Whether each letter goes to another hand, and all takes find theirs in some order of all deeds."""
    takes = []
    for hand, row in enumerate(rows):
        for place, (act, _) in enumerate(row):
            if len(act) == 3:
                takes.append((hand, place, act[1], act[2]))
            elif len(act) == 2 and (act[1] == hand or act[1] >= len(rows)):
                return False
    return are_sent(rows, takes) and have_an_order(takes)


def are_sent(rows, takes):
    """Whether each letter that is taken is sent to this hand, and none is taken twice.

    takes: rising rows of the taking hand and place, and the letter's hand and place.
    """
    letters = []
    for hand, _, other, at in takes:
        if other >= len(rows) or at >= len(rows[other]) or rows[other][at][0] != ("send", hand):
            return False
        letters.append((other, at))
    return len(letters) == len(set(letters))


def have_an_order(takes):
    """Whether, of such rows of takes, none must wait for ever.

    Only a take waits for anything else than what is ahead in its row: so a letter can be
    sent as soon as no take that is still to wait stands ahead of its sending.
    """
    waiting = takes
    while waiting:
        firsts = {}
        for hand, place, _, _ in waiting:
            firsts.setdefault(hand, place)
        still = [take for take in waiting if firsts.get(take[2], MOST_DEEDS) < take[3]]
        if len(still) == len(waiting):
            return False
        waiting = still
    return True


def is_place(run, thing):
    """Whether it is the (hand, place) of a deed of the run."""
    if not is_row(thing, 2, 2) or not is_whole(thing[0], 0, len(run) - 1):
        return False
    return is_whole(thing[1], 0, len(run[thing[0]]) - 1)


def need_run(run):
    """Refuse what is no run."""
    if not is_run(run):
        raise NoRun("this is no run")


def need_hand(run, hand):
    """Refuse what is no number of a hand of the run."""
    if not is_whole(hand, 0, len(run) - 1):
        raise NoHand(hand)


def need_place(run, deed):
    """Refuse what calls no deed of the run."""
    if not is_place(run, deed):
        raise NoPlace(deed)


def need_count(run, hand, count):
    """Refuse what is no count of the hand's deeds."""
    if not is_whole(count, 0, len(run[hand])):
        raise NoNumber(count)


def need_counts(run, hand, counts):
    """Refuse what is no rising row of counts of the hand's deeds."""
    most = len(run[hand])
    if type(counts) is not tuple or not all([is_whole(count, 0, most) for count in counts]):
        raise NoCounts("no rising row of counts of the hand's deeds")
    if not all([low < high for low, high in zip(counts, counts[1:])]):
        raise NoCounts("counts that do not rise")


def need_name(name):
    """Refuse what is no name."""
    if not is_name(name):
        raise NoName("this is no name")


def deeds_of(run):
    """All deeds of the run, each as (hand, place), rising."""
    need_run(run)
    return tuple([(hand, place) for hand, row in enumerate(run) for place in range(len(row))])


def worth_of(run, hand, count, name):
    """The number that the name has at the hand behind its first so many deeds."""
    need_run(run)
    need_hand(run, hand)
    need_count(run, hand, count)
    need_name(name)
    return worths_along(run[hand][:count], name)[count]


def taken_by(run, deed):
    """The deed that takes the letter that this one sends, or None."""
    need_run(run)
    need_place(run, deed)
    return taker_of(run, deed)

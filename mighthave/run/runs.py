"""Names, deeds and runs: what they are, and what a run's deeds set and send."""

from mighthave.errors import NoHand, NoName, NoNumber, NoPlace, NoRun
from mighthave.run.shapes import is_row, is_whole
from mighthave.run.steps import full_counts, is_ready, letter_sent, letter_taken, taker_of

MOST_HANDS = 6
MOST_DEEDS = 12
MOST_IN_ALL = 48
MOST_SETS = 3
MOST_LETTERS = 6
MOST_WORTH = 99
LETTERS = "abcdefghijklmnopqrstuvwxyz"


def is_name(thing):
    """Whether it is a text of one to six small letters."""
    if type(thing) != str or not 1 <= len(thing) <= MOST_LETTERS:
        return False
    return all([sign in LETTERS for sign in thing])


def is_deed(thing):
    """Whether it has the form of a deed, whatever run it is to stand in."""
    return is_row(thing, 2, 2) and is_act(thing[0]) and are_sets(thing[1])


def is_act(thing):
    """Whether it has the form of what a deed does."""
    if not is_row(thing, 0, 3):
        return False
    if len(thing) == 2:
        return thing[0] == "send" and is_whole(thing[1], 0, MOST_HANDS - 1)
    if len(thing) == 3:
        word, hand, place = thing
        return word == "take" and is_whole(hand, 0, MOST_HANDS - 1) and is_whole(place, 0, MOST_DEEDS - 1)
    return len(thing) == 0


def are_sets(thing):
    """Whether it has the form of what a deed sets."""
    if not is_row(thing, 0, MOST_SETS) or not all([is_setting(pair) for pair in thing]):
        return False
    names = [pair[0] for pair in thing]
    return names == sorted(set(names))


def is_setting(thing):
    """Whether it is a pair of a name and a number that a deed may set."""
    return is_row(thing, 2, 2) and is_name(thing[0]) and is_whole(thing[1], 0, MOST_WORTH)


def is_run(thing):
    """Whether it is a run."""
    if not is_row(thing, 1, MOST_HANDS) or not all([is_hands_row(row) for row in thing]):
        return False
    if sum(full_counts(thing)) > MOST_IN_ALL:
        return False
    return all_fit(thing) and is_each_taken_once(thing) and has_an_order(thing)


def is_hands_row(thing):
    """Whether it is a row of deeds by their forms."""
    return is_row(thing, 0, MOST_DEEDS) and all([is_deed(deed) for deed in thing])


def all_fit(rows):
    """Whether each letter goes to another hand, and each take has a letter sent to its hand."""
    return all([fits_at(rows, hand, deed) for hand, row in enumerate(rows) for deed in row])


def fits_at(rows, hand, deed):
    """Whether a deed of this hand has such a hand to send to, or such a letter to take."""
    other = letter_sent(deed)
    if other is not None:
        return other < len(rows) and other != hand
    letter = letter_taken(deed)
    if letter is None:
        return True
    return is_place(rows, letter) and letter_sent(rows[letter[0]][letter[1]]) == hand


def is_each_taken_once(rows):
    """Whether no letter is taken twice."""
    taken = [letter_taken(deed) for row in rows for deed in row if letter_taken(deed) is not None]
    return len(taken) == len(set(taken))


def has_an_order(rows):
    """Whether all deeds can be done one by one, none ahead of what it stands behind."""
    counts = [0] * len(rows)
    going = True
    while going:
        going = False
        for hand in range(len(rows)):
            while is_ready(rows, counts, hand):
                counts[hand] += 1
                going = True
    return tuple(counts) == full_counts(rows)


def is_place(run, thing):
    """Whether it is the (hand, place) of a deed of the run."""
    if not is_row(thing, 2, 2) or not is_whole(thing[0], 0, len(run) - 1):
        return False
    return is_whole(thing[1], 0, len(run[thing[0]]) - 1)


def need_run(run):
    """Refuse what is no run."""
    if not is_run(run):
        raise NoRun("this is no run")


def need_hand(run, hand):
    """Refuse what is no number of a hand of the run."""
    if not is_whole(hand, 0, len(run) - 1):
        raise NoHand(hand)


def need_place(run, deed):
    """Refuse what calls no deed of the run."""
    if not is_place(run, deed):
        raise NoPlace(deed)


def need_count(run, hand, count):
    """Refuse what is no count of the hand's deeds."""
    if not is_whole(count, 0, len(run[hand])):
        raise NoNumber(count)


def need_name(name):
    """Refuse what is no name."""
    if not is_name(name):
        raise NoName("this is no name")


def deeds_of(run):
    """All deeds of the run, each as (hand, place), rising."""
    need_run(run)
    return tuple([(hand, place) for hand, row in enumerate(run) for place in range(len(row))])


def worth_of(run, hand, count, name):
    """The number that the name has at the hand behind its first so many deeds."""
    need_run(run)
    need_hand(run, hand)
    need_count(run, hand, count)
    need_name(name)
    worth = 0
    for _, sets in run[hand][:count]:
        for each, number in sets:
            if each == name:
                worth = number
    return worth


def taken_by(run, deed):
    """The deed that takes the letter that this one sends, or None."""
    need_run(run)
    need_place(run, deed)
    return taker_of(run, deed)

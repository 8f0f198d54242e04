"""Names, deeds and runs: what they are, and what a run's deeds set and send."""

from mighthave.errors import NoCounts, NoHand, NoName, NoNumber, NoPlace, NoRun
from mighthave.run.shapes import is_whole
from mighthave.run.steps import taker_of, worth_behind

MOST_HANDS = 6
MOST_DEEDS = 12
MOST_IN_ALL = 48
MOST_SETS = 3
MOST_LETTERS = 6
MOST_WORTH = 99
LETTERS = "abcdefghijklmnopqrstuvwxyz"
# A row of as many deeds as there may be that do nothing: one of some such deeds is told from it at once.
NOTHING_DONE = (((), ()),) * 12


def is_name(thing):
    """Whether it is a text of one to six small letters."""
    return type(thing) is str and 1 <= len(thing) <= MOST_LETTERS and not thing.strip(LETTERS)


def is_deed(thing):
    """Whether it has the form of a deed, whatever run it is to stand in."""
    takes = takes_if_rows(((thing,),), MOST_HANDS, MOST_HANDS)
    return takes is not None and all([is_take(act) for act in takes[0]])


def is_take(act):
    """Whether three things in a row are an act that takes a letter, whatever run it is to stand in."""
    word, hand, place = act
    return word == "take" and is_whole(hand, 0, MOST_HANDS - 1) and is_whole(place, 0, MOST_DEEDS - 1)


def is_run(thing):
    """Whether it is a run."""
    if type(thing) is not tuple or not 1 <= len(thing) <= MOST_HANDS:
        return False
    takes = takes_if_rows(thing, 0, len(thing))
    if takes is None or not do_letters_fit(thing, takes):
        return False
    return len(thing) * MOST_DEEDS <= MOST_IN_ALL or sum([len(row) for row in thing]) <= MOST_IN_ALL


# Whoever hands in a run has all its deeds looked at: so in the next two defs nothing is called that can be done
# without, and no more is asked of an act or of sets that are (). Names mostly come again behind the same ones: so
# names has for each name that was found well, and for "" ahead of all, what was last found to rise behind it; is_name
# itself, which nothing handed in is equal to, as long as that is none.
def takes_if_rows(rows, first, hands):
    """For each row, numbered from first, its acts of three things, not looked at; None where any is no row of deeds."""
    names = {"": is_name}
    takes = []
    for hand, row in enumerate(rows, first):
        if type(row) is not tuple or len(row) > MOST_DEEDS:
            return None
        taking = []
        takes.append(taking)
        if len(row) > 3 and row == NOTHING_DONE[:len(row)]:
            continue
        for deed in row:
            if type(deed) is not tuple or len(deed) != 2:
                return None
            act, sets = deed
            if act != ():
                if type(act) is not tuple:
                    return None
                if len(act) == 3:
                    taking.append(act)
                elif len(act) != 2:
                    return None
                else:
                    word, other = act
                    if word != "send" or type(other) is not int or other < 0 or other >= hands or other == hand:
                        return None
            if sets != ():
                if type(sets) is not tuple or len(sets) > MOST_SETS:
                    return None
                ahead = ""
                for pair in sets:
                    if type(pair) is not tuple or len(pair) != 2:
                        return None
                    name, number = pair
                    if type(number) is not int or number < 0 or number > MOST_WORTH:
                        return None
                    if names[ahead] != name and not is_new_behind(names, ahead, name):
                        return None
                    ahead = name
    return takes


def do_letters_fit(rows, takes):
    """Whether these are acts that take letters, each sent to this hand and taken once, none awaited for ever.

    takes: for each hand its acts of three things.
    """
    must_wait = False
    for hand, acts in enumerate(takes):
        for word, other, place in acts:
            if word != "take" or type(other) is not int or type(place) is not int or other < 0 or other >= len(rows):
                return False
            row = rows[other]
            if place < 0 or place >= len(row) or row[place][0] != ("send", hand):
                return False
            if takes[other]:
                must_wait = True
        if len(acts) > 1 and len(set(acts)) < len(acts):
            return False
    # Letters of hands that take none can all be sent ahead of any take.
    return not must_wait or have_an_order([takes_along(row) if acts else [] for row, acts in zip(rows, takes)])


def is_new_behind(names, ahead, thing):
    """Whether it is a name that rises behind the one ahead, which is kept in names."""
    if type(thing) is not str or not ahead < thing or len(thing) > MOST_LETTERS or thing.strip(LETTERS):
        return False
    names[ahead] = thing
    names.setdefault(thing, is_name)
    return True


def takes_along(row):
    """Of each take of a hand its place, and the hand and place of the letter's sending, the last one ahead."""
    return [(place, act[1], act[2]) for place, (act, _) in enumerate(row) if len(act) == 3][::-1]


def have_an_order(waiting):
    """Whether, of such rows of takes, one for each hand, none must wait for ever.

    Only a take waits for anything else than what is ahead in its row: so a letter can be
    sent as soon as no take that is still to wait stands ahead of its sending.
    """
    firsts = [takes[-1][0] if takes else MOST_DEEDS for takes in waiting]
    goes_on = True
    while goes_on:
        goes_on = False
        for hand, takes in enumerate(waiting):
            while takes and firsts[takes[-1][1]] >= takes[-1][2]:
                takes.pop()
                firsts[hand] = takes[-1][0] if takes else MOST_DEEDS
                goes_on = True
    return min(firsts) == MOST_DEEDS


def is_place(run, thing):
    """Whether it is the (hand, place) of a deed of the run."""
    if type(thing) is not tuple or len(thing) != 2:
        return False
    hand, place = thing
    if type(hand) is not int or type(place) is not int or not 0 <= hand < len(run):
        return False
    return 0 <= place < len(run[hand])


def need_run(run):
    """Refuse what is no run."""
    if not is_run(run):
        raise NoRun("this is no run")


def need_hand(run, hand):
    """Refuse what is no number of a hand of the run."""
    if not is_whole(hand, 0, len(run) - 1):
        raise NoHand(hand)


def need_place(run, deed):
    """Refuse what calls no deed of the run."""
    if not is_place(run, deed):
        raise NoPlace(deed)


def need_count(run, hand, count):
    """Refuse what is no count of the hand's deeds."""
    if not is_whole(count, 0, len(run[hand])):
        raise NoNumber(count)


def need_counts(run, hand, counts):
    """Refuse what is no rising row of counts of the hand's deeds."""
    most = len(run[hand])
    if type(counts) is not tuple or not all([is_whole(count, 0, most) for count in counts]):
        raise NoCounts("no rising row of counts of the hand's deeds")
    if not all([low < high for low, high in zip(counts, counts[1:])]):
        raise NoCounts("counts that do not rise")


def need_name(name):
    """Refuse what is no name."""
    if not is_name(name):
        raise NoName("this is no name")


def deeds_of(run):
    """All deeds of the run, each as (hand, place), rising."""
    need_run(run)
    return tuple([(hand, place) for hand, row in enumerate(run) for place in range(len(row))])


def worth_of(run, hand, count, name):
    """The number that the name has at the hand behind its first so many deeds."""
    need_run(run)
    need_hand(run, hand)
    need_count(run, hand, count)
    need_name(name)
    return worth_behind(run[hand][:count], name)


def taken_by(run, deed):
    """The deed that takes the letter that this one sends, or None."""
    need_run(run)
    need_place(run, deed)
    return taker_of(run, deed)

"""Whether some moment fulfils all of some sayings: a way through the least one, or a chase that comes beyond all."""

from mighthave.errors import NoSayings
from mighthave.lots.firsts import slice_of_own, up_in
from mighthave.run.pasts import is_moment_of
from mighthave.run.runs import need_run
from mighthave.run.shapes import is_row, is_whole
from mighthave.run.steps import full_counts, hands_between, joined, no_counts
from mighthave.run.ways import stands_by
from mighthave.say.sayings import is_saying_of
from mighthave.say.tables import slices_said

MOST_TOGETHER = 6


def need_sayings(run, sayings):
    """Refuse what is no row of one to six sayings of the run."""
    if not is_row(sayings, 1, MOST_TOGETHER) or not all([is_saying_of(run, saying) for saying in sayings]):
        raise NoSayings("no row of one to six sayings of the run")


def chased(own, lots):
    """The least moment of all the lots, or None, and the rows by which the front comes there; own: the own slice.

    The front stays beneath each moment of all, as it has nothing but what some lot asks for above it.
    """
    front, pasts = own
    rows = []
    behind = None
    while front != behind:
        behind = front
        for number, lot in enumerate(lots):
            up = up_in(lot, front)
            if up is None:
                return None, rows + [(number,)]
            for hand, count in enumerate(up):
                if count > front[hand]:
                    rows.append((number, hand, count))
                    front = joined(front, pasts[hand][count - 1])
    return front, rows


def front_behind(own, lots, front, thing):
    """The front as a row of a chase moves it on, or None of what is no such row; own: the own slice."""
    if not is_row(thing, 3, 3):
        return None
    number, hand, count = thing
    if not is_whole(number, 0, len(lots) - 1) or not is_whole(hand, 0, len(front) - 1):
        return None
    up = up_in(lots[number], front)
    if up is None or not is_whole(count, front[hand] + 1, up[hand]):
        return None
    return joined(front, own[1][hand][count - 1])


def is_chase(own, lots, thing):
    """Whether its rows move the front on to where a lot has no moment above, of anything; own: the own slice."""
    if type(thing) is not tuple or not thing:
        return False
    front = own[0]
    for row in thing[:-1]:
        front = front_behind(own, lots, front, row)
        if front is None:
            return False
    last = thing[-1]
    return is_row(last, 1, 1) and is_whole(last[0], 0, len(lots) - 1) and up_in(lots[last[0]], front) is None


def is_way_through(run, moment, thing):
    """Whether it is a way of the run with the moment among its stands."""
    stands = stands_by(run, thing)
    return stands is not None and moment in stands


def might_have(run, sayings):
    """The least moment that fulfils all the sayings and a way through it, or a chase that shows there is none."""
    need_run(run)
    need_sayings(run, sayings)
    least, rows = chased(slice_of_own(run), slices_said(run, sayings))
    if least is None:
        return ("never", tuple(rows))
    way = hands_between(run, no_counts(run), least) + hands_between(run, least, full_counts(run))
    return ("might", least, way)


def shows_might(run, sayings, thing):
    """Whether it is such a paper of the sayings."""
    need_run(run)
    need_sayings(run, sayings)
    if not is_row(thing, 2, 3):
        return False
    own = slice_of_own(run)
    lots = slices_said(run, sayings)
    if len(thing) == 2:
        return thing[0] == "never" and is_chase(own, lots, thing[1])
    word, moment, way = thing
    if word != "might" or not is_moment_of(run, moment):
        return False
    return chased(own, lots)[0] == moment and is_way_through(run, moment, way)

"""The slices of a saying and of all that it says in it, as each word makes them of its parts' slices.

Nothing is looked at here before it is used: what is handed in was found well by who calls. What tells of a word
is handed the run, its own slice, the saying, and the slices of its parts in order.
"""

from mighthave.lots.ahead import slice_of_on, slice_of_till
from mighthave.lots.behind import slice_of_back, slice_of_since
from mighthave.lots.firsts import slice_of_own
from mighthave.lots.knowing import counts_known, counts_possible
from mighthave.lots.plain import slice_of_begin, slice_of_counts, slice_of_end, slice_of_road
from mighthave.lots.together import slice_of_each
from mighthave.say.own import counts_where
from mighthave.say.sayings import parts_of


def begin_table(run, _own, _saying, _parts):
    """Of BEGIN alone."""
    return slice_of_begin(run)


def end_table(run, _own, _saying, _parts):
    """Of END alone."""
    return slice_of_end(run)


def hand_table(run, own, saying, _parts):
    """Of the moments with a count at which the test holds."""
    _, hand, test = saying
    return slice_of_counts(own, hand, counts_where(run[hand], test))


def road_table(run, own, saying, _parts):
    """Of the moments with at most, at least, just so many letters under way."""
    _, one, other, word, k = saying
    return slice_of_road(run, own, (one, other), word, k)


def all_table(_run, own, _saying, parts):
    """Of the moments of all parts."""
    return slice_of_each(own, parts)


def till_table(_run, _own, _saying, parts):
    """Of the moments from which along the one part a moment of both is come to."""
    one, other = parts
    return slice_of_till(one, other)


def since_table(_run, _own, _saying, parts):
    """Of the moments to which along the one part is come from a moment of both."""
    one, other = parts
    return slice_of_since(one, other)


def on_table(_run, own, _saying, parts):
    """Of the moments at or above which all are the part's."""
    return slice_of_on(own, parts[0])


def back_table(_run, own, _saying, parts):
    """Of the moments at or below which all are the part's."""
    return slice_of_back(own, parts[0])


def knows_table(_run, own, saying, parts):
    """Of the moments at which the hand knows the part."""
    return slice_of_counts(own, saying[1], counts_known(own, saying[1], parts[0]))


def holds_table(_run, own, saying, parts):
    """Of the moments at which the hand holds the part possible."""
    return slice_of_counts(own, saying[1], counts_possible(own, saying[1], parts[0]))


TABLES = {
    "begin": begin_table,
    "end": end_table,
    "hand": hand_table,
    "road": road_table,
    "all": all_table,
    "till": till_table,
    "since": since_table,
    "on": on_table,
    "back": back_table,
    "knows": knows_table,
    "holds": holds_table,
}


def tables_along(run, own, saying):
    """The slices of all that is said in it, the inner ones ahead, its own last; own: the run's own slice."""
    told = []
    parts = []
    for part in parts_of(saying):
        told.extend(tables_along(run, own, part))
        parts.append(told[-1])
    table = TABLES[saying[0]]
    told.append(table(run, own, saying, parts))
    return told


def slice_said(run, own, saying):
    """The slice of the saying; own: the run's own slice."""
    return tables_along(run, own, saying)[-1]


def slices_said(run, sayings):
    """The slice of each of the sayings."""
    own = slice_of_own(run)
    return [slice_said(run, own, saying) for saying in sayings]

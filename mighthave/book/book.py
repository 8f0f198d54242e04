"""Books: a run that grows, sayings of it by names, and deeds that can be undone."""

from mighthave.errors import NoBack, Unfit, Unknown
from mighthave.lots.firsts import slice_of_own
from mighthave.run.runs import is_run, need_hand, need_name, need_run
from mighthave.say.sayings import need_saying
from mighthave.say.tables import slice_said


def grown(run, hand, deed):
    """The run with the deed at the end of the hand's row."""
    return run[:hand] + (run[hand] + (deed,),) + run[hand + 1:]


def how_much_other(many, ahead, behind):
    """How many firsts of deeds that were there are others now, and one more where the least is.

    Of None that became a slice, or a slice that became None, as many as were there, and one. many: how many were.
    """
    if ahead is None or behind is None:
        return 0 if ahead == behind else many + 1
    others = 0 if ahead[0] == behind[0] else 1
    for row, also in zip(ahead[1], behind[1]):
        others += len([first for first, other in zip(row, also) if first != other])
    return others


class Book:
    """A run, and sayings of it by names.

    Of each deed of the book that stands is kept what undoes it: of grow None, the run and the slices ahead of it; of
    say and drop the name, and the saying and the slice that it had, None where it had none. Behind these its news.
    """

    def __init__(self, run):
        need_run(run)
        self._run = run
        self._sayings = {}
        self._slices = {}
        self._deeds = []

    def grow(self, hand, deed):
        """Put the deed at the end of the hand's row: by how much the slice of each name is another one now."""
        need_hand(self._run, hand)
        run = grown(self._run, hand, deed)
        if not is_run(run):
            raise Unfit("no run comes of this deed")
        own = slice_of_own(run)
        slices = {name: slice_said(run, own, self._sayings[name]) for name in sorted(self._sayings)}
        many = sum([len(row) for row in self._run])
        news = tuple([(name, how_much_other(many, self._slices[name], lot)) for name, lot in slices.items()])
        self._deeds.append((None, self._run, self._slices, news))
        self._run = run
        self._slices = slices
        return news

    def say(self, name, saying):
        """Give the name this saying, a new one or in the place of the elder one."""
        need_name(name)
        need_saying(self._run, saying)
        lot = slice_said(self._run, slice_of_own(self._run), saying)
        self._deeds.append((name, self._sayings.get(name), self._slices.get(name), ()))
        self._sayings[name] = saying
        self._slices[name] = lot

    def drop(self, name):
        """Take the name and its saying out."""
        self._need_known(name)
        self._deeds.append((name, self._sayings.pop(name), self._slices.pop(name), ()))

    def back(self):
        """Undo the last deed that stands."""
        if not self._deeds:
            raise NoBack("no deed stands")
        name, elder, ahead, _ = self._deeds.pop()
        if name is None:
            self._run = elder
            self._slices = ahead
        elif elder is None:
            del self._sayings[name]
            del self._slices[name]
        else:
            self._sayings[name] = elder
            self._slices[name] = ahead

    def _need_known(self, name):
        """Refuse what is no name, then one without a saying."""
        need_name(name)
        if name not in self._sayings:
            raise Unknown(name)

    def run(self):
        """The run as it is now."""
        return self._run

    def names(self):
        """The names that have a saying, rising."""
        return tuple(sorted(self._sayings))

    def saying(self, name):
        """The saying that the name has."""
        self._need_known(name)
        return self._sayings[name]

    def slice_of(self, name):
        """The slice, of the run as it is now, of the saying that the name has."""
        self._need_known(name)
        return self._slices[name]

    def news(self):
        """The news of the last deed that stands; none where it isn't grow, or none stands."""
        return self._deeds[-1][3] if self._deeds else ()

    def __eq__(self, other):
        if not isinstance(other, Book):
            return False
        return self._run == other._run and self._sayings == other._sayings

    def __len__(self):
        return len(self._sayings)

    def __repr__(self):
        return f"Book({len(self._run)} hands, {len(self._sayings)} sayings)"

"""What is told of a saying by its slices: its tables, whether it holds, and what it tells of another one."""

from mighthave.lots.firsts import lies_in, slice_of_own
from mighthave.lots.slices import is_slice_of
from mighthave.lots.together import first_beyond
from mighthave.run.pasts import need_moment
from mighthave.run.runs import need_run
from mighthave.say.sayings import need_saying
from mighthave.say.tables import slice_said, slices_said, tables_along


def need_run_and_saying(run, saying):
    """Refuse what is no run, then what is no saying of it."""
    need_run(run)
    need_saying(run, saying)


def need_run_and_sayings(run, one, other):
    """Refuse what is no run, then what are no two sayings of it."""
    need_run_and_saying(run, one)
    need_saying(run, other)


def tables_of(run, saying):
    """The slices of all that is said in it, the inner ones ahead, its own last."""
    need_run_and_saying(run, saying)
    return tuple(tables_along(run, slice_of_own(run), saying))


def shows_tables(run, saying, thing):
    """Whether it is the tables of the saying: equal to them, and all made of rows and whole numbers."""
    need_run_and_saying(run, saying)
    if thing != tuple(tables_along(run, slice_of_own(run), saying)):
        return False
    return all([is_slice_of(run, each) for each in thing])


def slice_of(run, saying):
    """The slice of the saying."""
    need_run_and_saying(run, saying)
    return slice_said(run, slice_of_own(run), saying)


def is_so(run, saying, moment):
    """Whether the saying holds at the moment."""
    need_run_and_saying(run, saying)
    need_moment(run, moment)
    return lies_in(slice_said(run, slice_of_own(run), saying), moment)


def is_ever(run, saying):
    """Whether the saying holds at some moment."""
    need_run_and_saying(run, saying)
    return slice_said(run, slice_of_own(run), saying) is not None


def is_always(run, saying):
    """Whether the saying holds at each moment."""
    need_run_and_saying(run, saying)
    own = slice_of_own(run)
    return slice_said(run, own, saying) == own


def tells(run, one, other):
    """Whether the other saying holds wherever the one does, or a moment at which the one alone holds."""
    need_run_and_sayings(run, one, other)
    lot, also = slices_said(run, (one, other))
    moment = first_beyond(lot, also)
    return ("tells",) if moment is None else ("beyond", moment)


def are_one(run, one, other):
    """Whether both sayings hold at the same moments."""
    need_run_and_sayings(run, one, other)
    lot, also = slices_said(run, (one, other))
    return lot == also

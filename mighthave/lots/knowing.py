"""What a hand, which sees its own deeds alone, can tell of a lot: what it knows, and what it holds possible."""

from mighthave.lots.firsts import beyond_between, down_in, lies_in, slice_of_own, up_in
from mighthave.lots.plain import slice_of_counts
from mighthave.lots.slices import need_slice
from mighthave.run.pasts import need_moment
from mighthave.run.runs import need_count, need_hand, need_run
from mighthave.run.steps import lowered, stepped


def low_of(own, hand, count):
    """The least moment with just so many deeds of the hand; own: the run's own slice, here and below."""
    begin, pasts = own
    return begin if count == 0 else pasts[hand][count - 1]


def high_of(own, hand, count):
    """The greatest moment with just so many deeds of the hand: it has all that can be done without more of these."""
    return tuple([len([past for past in row if past[hand] <= count]) for row in own[1]])


def beyond_at(own, hand, lot, count):
    """A moment with just so many deeds of the hand that isn't the lot's, or None where all are."""
    return beyond_between(own, lot, low_of(own, hand, count), high_of(own, hand, count))


def is_possible_at(own, hand, lot, count):
    """Whether some moment with just so many deeds of the hand is the lot's."""
    up = up_in(lot, low_of(own, hand, count))
    return up is not None and up[hand] == count


def counts_known(own, hand, lot):
    """The rising counts of the hand's deeds at which it knows the lot."""
    many = len(own[1][hand])
    return tuple([count for count in range(many + 1) if beyond_at(own, hand, lot, count) is None])


def counts_possible(own, hand, lot):
    """The rising counts of the hand's deeds at which it holds the lot possible."""
    many = len(own[1][hand])
    return tuple([count for count in range(many + 1) if is_possible_at(own, hand, lot, count)])


def does_hang_on_others(own, hand, lot):
    """Whether no deed of the hand alone leads into the lot or out of it.

    Where one leads out of it, it does so from the least moment of the lot from which it can be done; where
    one leads into it, it does so to the greatest of those behind which it is undone first.
    """
    for place, past in enumerate(own[1][hand]):
        up = up_in(lot, lowered(past, hand))
        if up is not None and up[hand] == place and not lies_in(lot, stepped(up, hand)):
            return False
        down = down_in(lot, stepped(high_of(own, hand, place), hand))
        if down is not None and down[hand] > place and not lies_in(lot, lowered(down, hand)):
            return False
    return True


def need_run_hand_and_slice(run, hand, lot):
    """Refuse what is no run, then what is no hand of it, then what is no slice of it."""
    need_run(run)
    need_hand(run, hand)
    need_slice(run, lot)


def low_at(run, hand, count):
    """The least moment with just so many deeds of the hand."""
    need_run(run)
    need_hand(run, hand)
    need_count(run, hand, count)
    return low_of(slice_of_own(run), hand, count)


def high_at(run, hand, count):
    """The greatest moment with just so many deeds of the hand."""
    need_run(run)
    need_hand(run, hand)
    need_count(run, hand, count)
    return high_of(slice_of_own(run), hand, count)


def knows_at(run, hand, lot):
    """The rising counts of the hand's deeds at which it knows the lot."""
    need_run_hand_and_slice(run, hand, lot)
    return counts_known(slice_of_own(run), hand, lot)


def holds_possible(run, hand, lot):
    """The rising counts of the hand's deeds at which it holds the lot possible."""
    need_run_hand_and_slice(run, hand, lot)
    return counts_possible(slice_of_own(run), hand, lot)


def knowing(run, hand, lot):
    """The slice of the moments at which the hand knows the lot."""
    need_run_hand_and_slice(run, hand, lot)
    own = slice_of_own(run)
    return slice_of_counts(own, hand, counts_known(own, hand, lot))


def holding(run, hand, lot):
    """The slice of the moments at which the hand holds the lot possible."""
    need_run_hand_and_slice(run, hand, lot)
    own = slice_of_own(run)
    return slice_of_counts(own, hand, counts_possible(own, hand, lot))


def doubt(run, hand, lot, moment):
    """A moment with as many deeds of the hand that isn't the lot's, or None where the hand knows the lot there."""
    need_run_hand_and_slice(run, hand, lot)
    need_moment(run, moment)
    return beyond_at(slice_of_own(run), hand, lot, moment[hand])


def hangs_on_others(run, hand, lot):
    """Whether of moments that differ in the hand's count alone all are the lot's, or none."""
    need_run_hand_and_slice(run, hand, lot)
    return does_hang_on_others(slice_of_own(run), hand, lot)


def learned(run, hand, lot):
    """The rising counts, from 1, at which the hand knows the lot, and at one fewer didn't."""
    need_run_hand_and_slice(run, hand, lot)
    known = counts_known(slice_of_own(run), hand, lot)
    return tuple([count for count in known if count > 0 and count - 1 not in known])


def forgotten(run, hand, lot):
    """The rising counts, from 1, at which the hand doesn't know the lot, and at one fewer did."""
    need_run_hand_and_slice(run, hand, lot)
    known = counts_known(slice_of_own(run), hand, lot)
    return tuple([count + 1 for count in known if count < len(run[hand]) and count + 1 not in known])

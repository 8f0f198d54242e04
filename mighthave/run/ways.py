"""Ways from BEGIN to END, deed by deed, and the moments that they come to."""

from mighthave.errors import NoMoments, NoNumber, NoWay
from mighthave.run.bits import all_in
from mighthave.run.pasts import is_moment_of, need_moment
from mighthave.run.runs import need_run
from mighthave.run.shapes import is_row, is_whole
from mighthave.run.steps import full_counts, hands_between, is_ready, is_under, no_counts, pasts_along, stepped

MOST = 2000
MOST_EVER = 5000


def need_most(most):
    """Refuse what is no bound on how many moments there may be."""
    if not is_whole(most, 1, MOST_EVER):
        raise NoNumber(most)


def hands_on(run, moment):
    """The rising hands that can go on from the moment."""
    return tuple([hand for hand in range(len(run)) if is_ready(run, moment, hand)])


def can_go_on(run, moment):
    """The rising hands whose next deed leads to a moment, too."""
    need_run(run)
    need_moment(run, moment)
    return hands_on(run, moment)


def is_taken_among(row, hand, place):
    """Whether one of the deeds takes the letter of the deed of another hand at this place."""
    return ("take", hand, place) in [act for act, _ in row]


def can_go_back(run, moment):
    """The rising hands without whose last deed it is a moment, too."""
    need_run(run)
    need_moment(run, moment)
    hands = []
    for hand, count in enumerate(moment):
        if count > 0:
            act = run[hand][count - 1][0]
            if len(act) != 2 or not is_taken_among(run[act[1]][:moment[act[1]]], hand, count - 1):
                hands.append(hand)
    return tuple(hands)


def stands_by(run, thing):
    """The moments that it comes to, if it is a way, or None."""
    many = sum(full_counts(run))
    if not is_row(thing, many, many):
        return None
    moment = no_counts(run)
    stands = [moment]
    for hand in thing:
        if not is_whole(hand, 0, len(run) - 1) or not is_ready(run, moment, hand):
            return None
        moment = stepped(moment, hand)
        stands.append(moment)
    return tuple(stands)


def is_way(run, thing):
    """Whether it is a way of the run."""
    need_run(run)
    return stands_by(run, thing) is not None


def stands_of(run, way):
    """The moments that the way comes to, in order, BEGIN and END, too."""
    need_run(run)
    stands = stands_by(run, way)
    if stands is None:
        raise NoWay("this is no way of the run")
    return stands


def is_climb(run, thing):
    """Whether it is a row of moments, each at or below the next."""
    if type(thing) != tuple or not all([is_moment_of(run, each) for each in thing]):
        return False
    return all([is_under(low, high) for low, high in zip(thing, thing[1:])])


def way_by(run, *, moments=()):
    """A way that has these moments among its stands."""
    need_run(run)
    if not is_climb(run, moments):
        raise NoMoments("no row of moments, each at or below the next")
    marks = [no_counts(run), *moments, full_counts(run)]
    hands = []
    for low, high in zip(marks, marks[1:]):
        hands.extend(hands_between(run, low, high))
    return tuple(hands)


def all_moments(run, *, most=MOST):
    """All moments of the run, rising, if there are no more than most."""
    need_run(run)
    need_most(most)
    return moments_within(run, most)


def moments_within(run, most):
    """All moments, rising, or a refusal where there are more than most."""
    return all_in((no_counts(run), pasts_along(run)), most)

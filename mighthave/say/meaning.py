"""Which of all moments of a run fulfil a saying, word for word as [9] tells it, without slices.

What is handed in was found well by who calls. Of a saying a row of truths is told, one for each moment.
"""

from mighthave.run.steps import full_counts, no_counts, sent_along, stepped, taken_along
from mighthave.run.ways import hands_on
from mighthave.say.own import does_fit, truths_of


class Field:
    """All moments of a run, rising, and for each one the numbers of those with one deed more, with one fewer.

    Where one moment is at or below another, deeds lead from it to that, one by one. In a rising row
    what has one deed more stands behind.
    """

    def __init__(self, run, moments):
        self.rows = run
        self.moments = moments
        self.nexts = []
        self.lasts = [[] for _ in moments]
        numbers = {moment: number for number, moment in enumerate(moments)}
        for number, moment in enumerate(moments):
            further = [numbers[stepped(moment, hand)] for hand in hands_on(run, moment)]
            self.nexts.append(further)
            for each in further:
                self.lasts[each].append(number)


def begin_truths(field, _):
    """BEGIN alone."""
    begin = no_counts(field.rows)
    return [moment == begin for moment in field.moments]


def end_truths(field, _):
    """END alone."""
    end = full_counts(field.rows)
    return [moment == end for moment in field.moments]


def hand_truths(field, saying):
    """Where the test holds at the hand's count."""
    _, hand, test = saying
    truths = truths_of(field.rows[hand], test)
    return [truths[moment[hand]] for moment in field.moments]


def road_truths(field, saying):
    """Where at most, at least, just so many letters are under way."""
    _, one, other, word, k = saying
    sent = sent_along(field.rows, one, other)
    taken = taken_along(field.rows, one, other)
    return [does_fit(word, sent[moment[one]] - taken[moment[other]], k) for moment in field.moments]


def all_truths(field, saying):
    """Where each of them is fulfilled."""
    parts = [fulfilled(field, part) for part in saying[1]]
    return [all([truths[number] for truths in parts]) for number in range(len(field.moments))]


def till_truths(field, saying):
    """From where, deed by deed along p, it is come to p and q."""
    along, goal = fulfilled(field, saying[1]), fulfilled(field, saying[2])
    told = [False] * len(field.moments)
    for number in reversed(range(len(field.moments))):
        if along[number]:
            told[number] = goal[number] or any([told[each] for each in field.nexts[number]])
    return told


def since_truths(field, saying):
    """Where it is come to, deed by deed along p, from p and q."""
    along, start = fulfilled(field, saying[1]), fulfilled(field, saying[2])
    told = [False] * len(field.moments)
    for number in range(len(field.moments)):
        if along[number]:
            told[number] = start[number] or any([told[each] for each in field.lasts[number]])
    return told


def on_truths(field, saying):
    """Where it is fulfilled, and at all above."""
    told = fulfilled(field, saying[1])
    for number in reversed(range(len(field.moments))):
        told[number] = told[number] and all([told[each] for each in field.nexts[number]])
    return told


def back_truths(field, saying):
    """Where it is fulfilled, and at all below."""
    told = fulfilled(field, saying[1])
    for number in range(len(field.moments)):
        told[number] = told[number] and all([told[each] for each in field.lasts[number]])
    return told


def by_counts(field, hand, part):
    """For each count of the hand's deeds whether the moments with so many fulfil the part."""
    told = [[] for _ in range(len(field.rows[hand]) + 1)]
    for moment, truth in zip(field.moments, fulfilled(field, part)):
        told[moment[hand]].append(truth)
    return told


def knows_truths(field, saying):
    """Where each moment with just as many deeds of the hand fulfils it."""
    _, hand, part = saying
    known = [all(truths) for truths in by_counts(field, hand, part)]
    return [known[moment[hand]] for moment in field.moments]


def holds_truths(field, saying):
    """Where some moment with just as many deeds of the hand fulfils it."""
    _, hand, part = saying
    held = [any(truths) for truths in by_counts(field, hand, part)]
    return [held[moment[hand]] for moment in field.moments]


RULES = {
    "begin": begin_truths,
    "end": end_truths,
    "hand": hand_truths,
    "road": road_truths,
    "all": all_truths,
    "till": till_truths,
    "since": since_truths,
    "on": on_truths,
    "back": back_truths,
    "knows": knows_truths,
    "holds": holds_truths,
}


def fulfilled(field, saying):
    """For each moment whether it fulfils the saying."""
    rule = RULES[saying[0]]
    return rule(field, saying)

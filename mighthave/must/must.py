"""Whether tests of some hands must have been had together on each way: stretches that show it, or a way without.

A GAP of a test is what lies ahead of its first stretch, between two, or behind its last: it is called by (number,
at), number the test's among all, at the stretch's that ends it, or how many there are.
"""

from mighthave.errors import NoTests
from mighthave.run.runs import need_run
from mighthave.run.shapes import is_row, is_whole
from mighthave.run.steps import full_counts, hands_between, joined, no_counts, pasts_along
from mighthave.run.ways import stands_by
from mighthave.say.own import is_test, stretches_along, truths_of

MOST_TESTS = 6


def are_tests_of(many, thing):
    """Whether it is tests of so many hands."""
    if not is_row(thing, 1, MOST_TESTS) or not all([is_row(each, 2, 2) for each in thing]):
        return False
    if not all([is_whole(hand, 0, many - 1) and is_test(test) for hand, test in thing]):
        return False
    return all([one[0] < other[0] for one, other in zip(thing, thing[1:])])


def need_tests(run, tests):
    """Refuse what is no tests of the run's hands."""
    if not are_tests_of(len(run), tests):
        raise NoTests("no tests of the run's hands")


class Spans:
    """Where each of the tests holds: for each its hand and its stretches; with the pasts of the run's deeds."""

    def __init__(self, run, tests):
        self.rows = run
        self.pasts = pasts_along(run)
        self.hands = [hand for hand, _ in tests]
        self.spans = [stretches_along(run[hand], test) for hand, test in tests]


def must_begin_ahead(spans, hand, start, other, end):
    """Whether on each way the hand has come to the count start ahead of the other one's deed behind the count end."""
    if start == 0 or end == len(spans.rows[other]):
        return True
    return spans.pasts[other][end][hand] >= start


def gaps_come_to(spans):
    """All gaps through which a way can lead without all tests together, each with the gap ahead of it, or None.

    It begins in a gap ahead of a first stretch, and goes on from a gap to each other one that can be begun ahead
    of the gap's end. They stand in the order of how many gaps are gone through.
    """
    firsts = [(number, 0) for number, row in enumerate(spans.spans) if row == () or row[0][0] > 0]
    ahead = {gap: None for gap in firsts}
    waiting = list(firsts)
    at = 0
    while at < len(waiting):
        gap = waiting[at]
        at += 1
        for further in gaps_behind(spans, gap):
            if further not in ahead:
                ahead[further] = gap
                waiting.append(further)
    return ahead


def gaps_behind(spans, gap):
    """The gaps of other tests that can be begun ahead of this one's end; none where it never ends."""
    number, at = gap
    if at == len(spans.spans[number]):
        return []
    hand, start = spans.hands[number], spans.spans[number][at][0]
    gaps = []
    for also, (other, row) in enumerate(zip(spans.hands, spans.spans)):
        if also != number:
            gaps.extend([(also, k + 1) for k, (_, end) in enumerate(row)
                         if not must_begin_ahead(spans, hand, start, other, end)])
    return gaps


def way_through(spans, ahead, gap):
    """A way that is in one of the gaps all along: through those by which it was come to this one, which never ends.

    By as few gaps as can be: so what is done to begin one, and those ahead of it, doesn't end it.
    """
    gaps = []
    while ahead[gap] is not None:
        gaps.append(gap)
        gap = ahead[gap]
    moment = no_counts(spans.rows)
    hands = []
    for number, at in reversed(gaps):
        end = spans.spans[number][at - 1][1]
        further = joined(moment, spans.pasts[spans.hands[number]][end])
        hands.extend(hands_between(spans.rows, moment, further))
        moment = further
    hands.extend(hands_between(spans.rows, moment, full_counts(spans.rows)))
    return tuple(hands)


def stretches_behind(spans, ahead):
    """Of each test the stretch behind the last of its gaps that are come to, its first one where none is."""
    lasts = [max([at for each, at in ahead if each == number], default=0) for number in range(len(spans.spans))]
    return tuple([row[at] for row, at in zip(spans.spans, lasts)])


def are_had_together(run, tests, moments):
    """Whether all tests hold together at one of the moments."""
    truths = [(hand, truths_of(run[hand], test)) for hand, test in tests]
    return any([all([held[moment[hand]] for hand, held in truths]) for moment in moments])


def are_together(spans, thing):
    """Whether it is a stretch of each test, in order, all beginning ahead of each one's end; of anything."""
    many = len(spans.spans)
    if not is_row(thing, many, many) or not all([is_stretch(row, each) for row, each in zip(spans.spans, thing)]):
        return False
    marks = list(zip(spans.hands, thing))
    return all([must_begin_ahead(spans, hand, one[0], other, also[1])
                for hand, one in marks for other, also in marks if hand != other])


def is_stretch(row, thing):
    """Whether it is one of the stretches, of anything."""
    return is_row(thing, 2, 2) and type(thing[0]) is int and type(thing[1]) is int and thing in row


def are_tests(run, thing):
    """Whether it is tests of the run's hands."""
    need_run(run)
    return are_tests_of(len(run), thing)


def must_have(run, tests):
    """Stretches that show that each way has a moment at which all tests hold together, or a way that has none."""
    need_run(run)
    need_tests(run, tests)
    spans = Spans(run, tests)
    ahead = gaps_come_to(spans)
    for number, at in ahead:
        if at == len(spans.spans[number]):
            return ("by", way_through(spans, ahead, (number, at)))
    return ("must", stretches_behind(spans, ahead))


def shows_must(run, tests, thing):
    """Whether it is such stretches, or such a way."""
    need_run(run)
    need_tests(run, tests)
    if not is_row(thing, 2, 2):
        return False
    word, rest = thing
    if word == "must":
        return are_together(Spans(run, tests), rest)
    stands = stands_by(run, rest)
    return word == "by" and stands is not None and not are_had_together(run, tests, stands)

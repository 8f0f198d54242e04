"""Tests of one hand: what they are, and at which counts of its deeds they hold."""

from mighthave.errors import NoTest
from mighthave.run.runs import MOST_DEEDS, MOST_WORTH, is_name, need_count, need_hand, need_run
from mighthave.run.shapes import is_row, is_whole
from mighthave.run.steps import worths_along

MOST_WITHIN = 4
MOST_PLAIN = 12
MOST_PARTS = 4
WORTH_WORDS = ("is", "least", "most")


def is_test(thing):
    """Whether it is a test."""
    waiting = [(thing, 1)]
    many = 0
    while waiting:
        test, depth = waiting.pop()
        parts = parts_if_test(test)
        if parts is None or depth > MOST_WITHIN:
            return False
        if parts == ():
            many += 1
            if many > MOST_PLAIN:
                return False
        waiting.extend([(part, depth + 1) for part in parts])
    return True


def parts_if_test(thing):
    """What would have to be a test for it to be one, () of one of the first four; or None where it is none."""
    if not is_row(thing, 2, 3):
        return None
    word, rest = thing[0], thing[1:]
    if word == "not" and len(rest) == 1:
        return rest
    if (word == "and" or word == "or") and len(rest) == 1:
        return rest[0] if is_row(rest[0], 2, MOST_PARTS) else None
    return () if is_plain_test(word, rest) else None


def is_plain_test(word, rest):
    """Whether it is one of the tests that have no other within."""
    if len(rest) == 1:
        return word == "done" and is_whole(rest[0], 0, MOST_DEEDS)
    name, k = rest
    return word in WORTH_WORDS and is_name(name) and is_whole(k, 0, MOST_WORTH)


def need_test(test):
    """Refuse what is no test."""
    if not is_test(test):
        raise NoTest("this is no test")


def truths_of(row, test):
    """For each count of the row's deeds, from 0 to all, whether the test holds there."""
    word = test[0]
    if word == "done":
        return [count >= test[1] for count in range(len(row) + 1)]
    if word == "not":
        return [not truth for truth in truths_of(row, test[1])]
    if word == "and" or word == "or":
        return truths_of_parts(row, word, test[1])
    return [does_fit(word, worth, test[2]) for worth in worths_along(row, test[1])]


def truths_of_parts(row, word, tests):
    """So of "and", of "or" alike: whether all of the tests, some of them hold."""
    parts = [truths_of(row, test) for test in tests]
    if word == "and":
        return [all([truths[count] for truths in parts]) for count in range(len(row) + 1)]
    return [any([truths[count] for truths in parts]) for count in range(len(row) + 1)]


def does_fit(word, number, k):
    """Whether the number is at least, at most, by each other word just k."""
    if word == "least":
        return number >= k
    return number <= k if word == "most" else number == k


def counts_where(row, test):
    """The rising counts of the row's deeds at which the test holds."""
    return tuple([count for count, truth in enumerate(truths_of(row, test)) if truth])


def stretches_along(row, test):
    """The longest rows of neighbouring counts of the row's deeds at which the test holds, each as (from, to)."""
    counts = counts_where(row, test)
    begins = [count for count in counts if count - 1 not in counts]
    ends = [count for count in counts if count + 1 not in counts]
    return tuple(zip(begins, ends))


def holds_at(run, hand, count, test):
    """Whether the test holds at the hand behind its first so many deeds."""
    need_run(run)
    need_hand(run, hand)
    need_count(run, hand, count)
    need_test(test)
    return truths_of(run[hand], test)[count]


def where(run, hand, test):
    """The rising counts of the hand's deeds at which the test holds."""
    need_run(run)
    need_hand(run, hand)
    need_test(test)
    return counts_where(run[hand], test)


def stretches(run, hand, test):
    """The longest rows of neighbouring counts at which the test holds, each as (from, to), rising."""
    need_run(run)
    need_hand(run, hand)
    need_test(test)
    return stretches_along(run[hand], test)

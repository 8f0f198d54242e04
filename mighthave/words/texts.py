"""What things are written as, and what is written so read again."""

from mighthave.errors import NoMoment, NoSaying, NoSum, NoTests, NoText, NoWay, Unfit
from mighthave.lots.slices import need_run_and_slice
from mighthave.must.must import are_tests_of
from mighthave.run.runs import MOST_DEEDS, MOST_HANDS, MOST_IN_ALL, is_deed, is_run, need_run
from mighthave.run.shapes import is_row, is_whole
from mighthave.say.own import need_test
from mighthave.say.sayings import is_saying_of
from mighthave.sums.sums import is_sum_of
from mighthave.words.reading import deed_in, run_in, sum_in, tests_in, whole_saying_in
from mighthave.words.writing import written_counts, written_deed, written_run, written_saying, written_slice
from mighthave.words.writing import written_sum, written_test, written_tests

# What is looked at by its form alone may name each hand that any run can have.
ALL_HANDS = ((), (), (), (), (), ())


def has_moment_form(thing):
    """Whether it has the form of a moment, whatever its run."""
    return is_row(thing, 1, MOST_HANDS) and all([is_whole(count, 0, MOST_DEEDS) for count in thing])


def has_way_form(thing):
    """Whether it has the form of a way, whatever its run."""
    return is_row(thing, 0, MOST_IN_ALL) and all([is_whole(hand, 0, MOST_HANDS - 1) for hand in thing])


def moment_text(moment):
    """The moment as it is written."""
    if not has_moment_form(moment):
        raise NoMoment("this has not the form of a moment")
    return written_counts(moment)


def way_text(way):
    """The way as it is written."""
    if not has_way_form(way):
        raise NoWay("this has not the form of a way")
    return written_counts(way) if way else "-"


def deed_text(deed):
    """The deed as it is written."""
    if not is_deed(deed):
        raise Unfit("this has not the form of a deed")
    return written_deed(deed)


def run_text(run):
    """The run as it is written."""
    need_run(run)
    return written_run(run)


def test_text(test):
    """The test as it is written."""
    need_test(test)
    return written_test(test)


def saying_text(saying):
    """The saying as it is written."""
    if not is_saying_of(ALL_HANDS, saying):
        raise NoSaying("this has not the form of a saying")
    return written_saying(saying)


def slice_text(run, lot):
    """The slice as it is written."""
    need_run_and_slice(run, lot)
    return written_slice(lot)


def sum_text(total):
    """The sum as it is written."""
    if not is_sum_of(MOST_HANDS, total):
        raise NoSum("this has not the form of a sum")
    return written_sum(total)


def tests_text(tests):
    """The tests, each with its hand, as they are written."""
    if not are_tests_of(MOST_HANDS, tests):
        raise NoTests("these have not the form of tests")
    return written_tests(tests)


def read_deed(text):
    """The deed that is written so."""
    deed = deed_in(text)
    if not is_deed(deed):
        raise NoText("this writes no deed")
    return deed


def read_run(text):
    """The run that is written so."""
    run = run_in(text)
    if not is_run(run):
        raise NoText("this writes no run")
    return run


def read_saying(run, text):
    """The saying of the run that is written so."""
    need_run(run)
    saying = whole_saying_in(text)
    if not is_saying_of(run, saying):
        raise NoText("this writes no saying of the run")
    return saying


def read_sum(run, text):
    """The sum of the run's hands that is written so."""
    need_run(run)
    total = sum_in(text)
    if not is_sum_of(len(run), total):
        raise NoText("this writes no sum of the run's hands")
    return total


def read_tests(run, text):
    """The tests of the run's hands that are written so."""
    need_run(run)
    tests = tests_in(text)
    if not are_tests_of(len(run), tests):
        raise NoText("this writes no tests of the run's hands")
    return tests

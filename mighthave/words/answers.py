"""What a desk answers by its book: each def to one word, handed the book and what stands behind the word."""

from mighthave.count.counts import how_many, moment_at
from mighthave.lots.slices import greatest_in, is_in, least_in
from mighthave.must.must import must_have
from mighthave.papers.might import might_have
from mighthave.say.told import tells
from mighthave.sums.flows import greatest_of, least_of
from mighthave.words.texts import moment_text, read_deed, read_saying, read_sum, read_tests, slice_text, way_text


def grow_answer(book, hand, text):
    """The news of a deed at the end of a hand's row."""
    news = book.grow(hand, read_deed(text))
    return " , ".join([f"{name} {many}" for name, many in news]) if news else "-"


def say_answer(book, name, text):
    """A name gets a saying."""
    book.say(name, read_saying(book.run(), text))
    return "ok"


def drop_answer(book, name):
    """A name goes, and its saying."""
    book.drop(name)
    return "ok"


def back_answer(book):
    """The last deed that stands is undone."""
    book.back()
    return "ok"


def slice_answer(book, name):
    """The slice of a name."""
    return slice_text(book.run(), book.slice_of(name))


def moment_or_none(moment):
    """The moment as it is written, or that there is none."""
    return "none" if moment is None else moment_text(moment)


def least_answer(book, name):
    """The least moment of a name."""
    return moment_or_none(least_in(book.run(), book.slice_of(name)))


def greatest_answer(book, name):
    """The greatest moment of a name."""
    return moment_or_none(greatest_in(book.run(), book.slice_of(name)))


def many_answer(book, name):
    """How many moments a name has."""
    return str(how_many(book.run(), book.slice_of(name)))


def at_answer(book, name, number):
    """The moment of a name that has this number."""
    return moment_text(moment_at(book.run(), book.slice_of(name), number))


def is_answer(book, name, moment):
    """Whether a name holds at a moment."""
    return "yes" if is_in(book.run(), book.slice_of(name), moment) else "no"


def might_answer(book, names):
    """The least moment of some names together."""
    paper = might_have(book.run(), tuple([book.saying(name) for name in names]))
    return f"might {moment_text(paper[1])}" if paper[0] == "might" else "never"


def tells_answer(book, one, other):
    """Whether one name tells another one."""
    paper = tells(book.run(), book.saying(one), book.saying(other))
    return "tells" if paper[0] == "tells" else f"beyond {moment_text(paper[1])}"


def sums_answer(book, name, text):
    """The least and the greatest of a sum over a name's moments."""
    total = read_sum(book.run(), text)
    lot = book.slice_of(name)
    if lot is None:
        return "none"
    least, greatest = least_of(book.run(), lot, total), greatest_of(book.run(), lot, total)
    return f"{least[0]} to {greatest[0]}"


def must_answer(book, text):
    """Whether tests must have been had together."""
    paper = must_have(book.run(), read_tests(book.run(), text))
    return "must" if paper[0] == "must" else f"by {way_text(paper[1])}"


def names_answer(book):
    """The names that have a saying."""
    return ",".join(book.names()) if book.names() else "-"


ANSWERS = {
    "grow": grow_answer,
    "say": say_answer,
    "drop": drop_answer,
    "back": back_answer,
    "slice": slice_answer,
    "least": least_answer,
    "greatest": greatest_answer,
    "many": many_answer,
    "at": at_answer,
    "is": is_answer,
    "might": might_answer,
    "tells": tells_answer,
    "sums": sums_answer,
    "must": must_answer,
    "names": names_answer,
}


def answered(book, word, parts):
    """What the book answers to the word, parts behind it."""
    answer = ANSWERS[word]
    return answer(book, *parts)

"""The rows that a desk takes: a word, and behind it what the word asks for. All else is NoLine."""

from mighthave.errors import NoLine
from mighthave.papers.might import MOST_TOGETHER
from mighthave.run.runs import is_name
from mighthave.words.reading import number_in, numbers_in
from mighthave.words.texts import has_moment_form

# What each word asks for, a blank ahead of each: "text" is all that stands behind its blank, whatever it is.
ASKED = {
    "run": ("text",),
    "grow": ("number", "text"),
    "say": ("name", "text"),
    "drop": ("name",),
    "back": (),
    "slice": ("name",),
    "least": ("name",),
    "greatest": ("name",),
    "many": ("name",),
    "at": ("name", "number"),
    "is": ("name", "moment"),
    "might": ("names",),
    "tells": ("name", "name"),
    "sums": ("name", "text"),
    "must": ("text",),
    "names": (),
}


def cut(row):
    """The row's word and what stands behind it, each as the word asks for it."""
    if type(row) is not str:
        raise NoLine("this is no text")
    word, blank, rest = row.partition(" ")
    if word not in ASKED:
        raise NoLine("no row begins so")
    kinds = ASKED[word]
    parts = []
    if blank != "":
        parts = rest.split(" ", len(kinds) - 1) if kinds[-1:] == ("text",) else rest.split(" ")
    if len(parts) != len(kinds):
        raise NoLine("so many words do not stand behind this one")
    return word, [asked_in(kind, part) for kind, part in zip(kinds, parts)]


def asked_in(kind, part):
    """What a word asks for, of this kind, as it is written."""
    if kind == "number":
        return number_asked(part)
    if kind == "moment":
        return moment_asked(part)
    if kind == "names":
        return names_asked(part)
    if kind == "name" and not is_name(part):
        raise NoLine("this is no name")
    return part


def number_asked(part):
    """The number that is written so."""
    number = number_in(part)
    if number is None:
        raise NoLine("this is no number")
    return number


def moment_asked(part):
    """The moment that is written so."""
    moment = numbers_in(part)
    if not has_moment_form(moment):
        raise NoLine("this is no moment")
    return moment


def names_asked(part):
    """The names that are written so."""
    names = part.split(",")
    if len(names) > MOST_TOGETHER or not all([is_name(name) for name in names]):
        raise NoLine("these are no names")
    return tuple(names)

"""Sayings of a run: what they are, and which moments fulfil them."""

from mighthave.errors import NoSaying
from mighthave.lots.plain import WORDS
from mighthave.run.runs import MOST_DEEDS, need_run
from mighthave.run.shapes import is_row, is_whole
from mighthave.run.ways import MOST, moments_within, need_most
from mighthave.say.meaning import Field, fulfilled
from mighthave.say.own import is_test

MOST_DEPTH = 6
MOST_SIZE = 24
MOST_OF_ALL = 4
# How long a saying of each word is.
LENGTHS = {
    "begin": 1, "end": 1, "hand": 3, "road": 5, "all": 2, "till": 3, "since": 3, "on": 2, "back": 2, "knows": 3,
    "holds": 3,
}


def is_saying_of(run, thing):
    """Whether it is a saying of what was found to be a run."""
    waiting = [(thing, 1)]
    many = 0
    while waiting:
        saying, depth = waiting.pop()
        many += 1
        if depth > MOST_DEPTH or many > MOST_SIZE or not has_form(run, saying):
            return False
        waiting.extend([(part, depth + 1) for part in parts_of(saying)])
    return True


def has_form(run, thing):
    """Whether it is as its word asks, its parts not looked at."""
    if type(thing) is not tuple or not thing or type(thing[0]) is not str:
        return False
    word = thing[0]
    if len(thing) != LENGTHS.get(word, 0):
        return False
    if word == "hand":
        return is_hand(run, thing[1]) and is_test(thing[2])
    if word == "road":
        return is_road(run, thing[1], thing[2]) and thing[3] in WORDS and is_whole(thing[4], 0, MOST_DEEDS)
    if word == "all":
        return is_row(thing[1], 0, MOST_OF_ALL)
    return is_hand(run, thing[1]) if word == "knows" or word == "holds" else True


def is_hand(run, thing):
    """Whether it is the number of a hand of the run."""
    return is_whole(thing, 0, len(run) - 1)


def is_road(run, one, other):
    """Whether these are two hands of the run, unlike."""
    return is_hand(run, one) and is_hand(run, other) and one != other


def parts_of(saying):
    """The sayings that stand right within it, in order."""
    word = saying[0]
    if word == "all":
        return saying[1]
    if word == "knows" or word == "holds":
        return saying[2:]
    return () if word == "hand" or word == "road" else saying[1:]


def hands_named(saying):
    """The hands that its own word names."""
    word = saying[0]
    if word == "road":
        return saying[1:3]
    return saying[1:2] if word == "hand" or word == "knows" or word == "holds" else ()


def all_within(saying):
    """All sayings in it, at any depth, itself, too."""
    found = []
    waiting = [saying]
    while waiting:
        part = waiting.pop()
        found.append(part)
        waiting.extend(parts_of(part))
    return found


def need_saying(run, saying):
    """Refuse what is no saying of the run."""
    if not is_saying_of(run, saying):
        raise NoSaying("this is no saying of the run")


def is_saying(run, thing):
    """Whether it is a saying of the run."""
    need_run(run)
    return is_saying_of(run, thing)


def size_of(run, saying):
    """How many sayings are in it, itself, too."""
    need_run(run)
    need_saying(run, saying)
    return len(all_within(saying))


def hands_of(run, saying):
    """The rising hands that it names, at any depth."""
    need_run(run)
    need_saying(run, saying)
    return tuple(sorted(set([hand for part in all_within(saying) for hand in hands_named(part)])))


def meant(run, saying, *, most=MOST):
    """All moments that fulfil it, rising, if the run has no more moments than most."""
    need_run(run)
    need_saying(run, saying)
    need_most(most)
    field = Field(run, moments_within(run, most))
    return tuple([moment for moment, truth in zip(field.moments, fulfilled(field, saying)) if truth])

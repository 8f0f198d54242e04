"""How what is written is read, word by word.

What is read has the form of its words; whether it is well, who calls asks. All that is not so written is NoText.
"""

from mighthave.errors import NoText
from mighthave.say.own import MOST_PARTS, MOST_WITHIN, WORTH_WORDS
from mighthave.say.sayings import MOST_DEPTH

FIGURES = "0123456789"
MOST_FIGURES = 40


def number_in(word):
    """The number that the word writes, or None: no 0 ahead of others, none below 0 but by a sign ahead."""
    figures = word[1:] if word.startswith("-") else word
    if figures == "" or len(figures) > MOST_FIGURES or figures.strip(FIGURES) != "":
        return None
    if figures[0] == "0" and word != "0":
        return None
    return int(word)


def numbers_in(text):
    """The numbers of a text with `.` between, or None."""
    numbers = [number_in(word) for word in text.split(".")]
    return None if None in numbers else tuple(numbers)


class Words:
    """The words of a text, one blank between each two, read one behind the other."""

    def __init__(self, text):
        if type(text) is not str:
            raise NoText("this is no text")
        self._words = text.split(" ")
        self._at = 0

    def next_word(self):
        """The next word."""
        if self.is_done():
            raise NoText("a word is wanting")
        self._at += 1
        return self._words[self._at - 1]

    def next_number(self):
        """The number that the next word writes."""
        number = number_in(self.next_word())
        if number is None:
            raise NoText("a word is no number")
        return number

    def is_done(self):
        """Whether no word is left."""
        return self._at == len(self._words)

    def is_next(self, word):
        """Whether this word is the next one."""
        return not self.is_done() and self._words[self._at] == word

    def need(self, word):
        """Read this word, and no other."""
        if self.next_word() != word:
            raise NoText("another word was to stand here")


def deed_in(text):
    """The deed that the text writes."""
    words = Words(text)
    word = words.next_word()
    if word == "do":
        act = ()
    elif word == "to":
        act = ("send", words.next_number())
    elif word == "of":
        act = ("take", words.next_number(), words.next_number())
    else:
        raise NoText("no act begins so")
    sets = []
    while not words.is_done():
        name, _, figures = words.next_word().partition("=")
        number = number_in(figures)
        if number is None:
            raise NoText("this sets no number")
        sets.append((name, number))
    return (act, tuple(sets))


def row_in(text):
    """The deeds of a hand that the text writes."""
    return () if text == "-" else tuple([deed_in(part) for part in text.split(" ; ")])


def run_in(text):
    """The run that the text writes."""
    if type(text) is not str:
        raise NoText("this is no text")
    return tuple([row_in(part) for part in text.split(" | ")])


def parts_in(words, part_in, depth):
    """The parts that stand in brackets, each read by part_in, that far within others."""
    words.need("(")
    parts = []
    if not words.is_next(")"):
        parts.append(part_in(words, depth))
    while words.is_next(",") and 0 < len(parts) < MOST_PARTS:
        words.need(",")
        parts.append(part_in(words, depth))
    words.need(")")
    return tuple(parts)


def test_in(words, depth):
    """The next test, that far within others."""
    if depth > MOST_WITHIN:
        raise NoText("too many tests within one another")
    word = words.next_word()
    if word in WORTH_WORDS:
        return (word, words.next_word(), words.next_number())
    if word == "done":
        return (word, words.next_number())
    if word == "not":
        return (word, test_in(words, depth + 1))
    if word == "and" or word == "or":
        return (word, parts_in(words, test_in, depth + 1))
    raise NoText("no test begins so")


def saying_in(words, depth):
    """The next saying, that far within others."""
    if depth > MOST_DEPTH:
        raise NoText("too many sayings within one another")
    word = words.next_word()
    if word == "begin" or word == "end":
        return (word,)
    if word == "hand":
        return (word, words.next_number(), test_in(words, 1))
    if word == "road":
        return (word, words.next_number(), words.next_number(), words.next_word(), words.next_number())
    if word == "all":
        return (word, parts_in(words, saying_in, depth + 1))
    if word == "till" or word == "since":
        return (word, saying_in(words, depth + 1), saying_in(words, depth + 1))
    if word == "on" or word == "back":
        return (word, saying_in(words, depth + 1))
    if word == "knows" or word == "holds":
        return (word, words.next_number(), saying_in(words, depth + 1))
    raise NoText("no saying begins so")


def whole_saying_in(text):
    """The saying that the text writes, and nothing else."""
    words = Words(text)
    saying = saying_in(words, 1)
    if not words.is_done():
        raise NoText("more stands behind the saying")
    return saying


def sum_in(text):
    """The sum that the text writes."""
    words = Words(text)
    parts = [(words.next_number(), words.next_word(), words.next_number())]
    while not words.is_done():
        words.need(",")
        parts.append((words.next_number(), words.next_word(), words.next_number()))
    return tuple(parts)


def tests_in(text):
    """The tests, each with its hand, that the text writes."""
    words = Words(text)
    tests = [(words.next_number(), test_in(words, 1))]
    while not words.is_done():
        words.need(",")
        tests.append((words.next_number(), test_in(words, 1)))
    return tuple(tests)

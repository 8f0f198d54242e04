"""Desks: they are asked by rows of words, and answer by texts."""

from mighthave.book.book import Book
from mighthave.errors import NoLine
from mighthave.words.answers import answered
from mighthave.words.rows import cut
from mighthave.words.texts import read_run


class Desk:
    """A book, none at first, and a log of all rows that were said."""

    def __init__(self):
        self._book = None
        self._log = []

    def say(self, row):
        """The answer to a row."""
        said = row if type(row) is str else ""
        self._log.append(("in", said))
        try:
            return self._answer_to(row)
        finally:
            self._log.append(("out", said))

    def many(self, rows):
        """The answers to some rows, up to the first one that is refused."""
        if type(rows) is not tuple:
            raise NoLine("no row of rows")
        return tuple([self.say(row) for row in rows])

    def log(self):
        """Both ends of each row that was begun, in order."""
        return tuple(self._log)

    def book(self):
        """The book itself, to be looked at alone, or None."""
        return self._book

    def _answer_to(self, row):
        """The answer to a row, whatever the log has."""
        word, parts = cut(row)
        if word == "run":
            self._book = Book(read_run(parts[0]))
            return "ok"
        if self._book is None:
            raise NoLine("no book ahead of a run")
        return answered(self._book, word, parts)

    def __len__(self):
        return len([end for end, _ in self._log if end == "in"])

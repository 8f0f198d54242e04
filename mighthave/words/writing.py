"""How things are written.

Nothing is looked at here before it is used: what is handed in was found well by who calls.
"""


def written_counts(counts):
    """A moment, or a way that has hands."""
    return ".".join([str(count) for count in counts])


def written_deed(deed):
    """A deed: its act, and its sets behind."""
    act, sets = deed
    if act == ():
        words = ["do"]
    elif act[0] == "send":
        words = [f"to {act[1]}"]
    else:
        words = [f"of {act[1]} {act[2]}"]
    return " ".join(words + [f"{name}={number}" for name, number in sets])


def written_row(row):
    """The deeds of a hand."""
    return " ; ".join([written_deed(deed) for deed in row]) if row else "-"


def written_run(run):
    """A run: its hands."""
    return " | ".join([written_row(row) for row in run])


def written_parts(word, parts):
    """A word, and in brackets parts that are written already."""
    return f"{word} ( {' , '.join(parts)} )" if parts else f"{word} ( )"


def written_test(test):
    """A test, those within it, too."""
    word = test[0]
    if word == "not":
        return f"not {written_test(test[1])}"
    if word == "and" or word == "or":
        return written_parts(word, [written_test(part) for part in test[1]])
    return " ".join([str(part) for part in test])


def written_saying(saying):
    """A saying, those within it, too."""
    word = saying[0]
    if word == "all":
        return written_parts(word, [written_saying(part) for part in saying[1]])
    if word == "hand":
        return f"hand {saying[1]} {written_test(saying[2])}"
    if word == "knows" or word == "holds":
        return f"{word} {saying[1]} {written_saying(saying[2])}"
    if word == "road":
        return " ".join([str(part) for part in saying])
    return " ".join([word] + [written_saying(part) for part in saying[1:]])


def written_firsts(row):
    """The firsts of a hand's deeds."""
    return " ".join(["x" if first is None else written_counts(first) for first in row]) if row else "-"


def written_slice(lot):
    """A slice: its least, and the firsts of each hand."""
    if lot is None:
        return "none"
    least, firsts = lot
    return " | ".join([written_counts(least)] + [written_firsts(row) for row in firsts])


def written_sum(total):
    """A sum: its parts."""
    return " , ".join([f"{hand} {name} {weight}" for hand, name, weight in total])


def written_tests(tests):
    """Tests, each with its hand."""
    return " , ".join([f"{hand} {written_test(test)}" for hand, test in tests])

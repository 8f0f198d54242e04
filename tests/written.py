"""What the document says of how things are written, in the plainest way, and texts with one thing otherwise.

Nothing here calls the program: what it tells is held against this.
"""

import re

NUMBER = "(?:0|-?[1-9][0-9]{0,39})"
DEED = re.compile(r"(do|to [0-5]|of [0-5] (?:[0-9]|1[01]))((?: [a-z]{1,6}=(?:0|[1-9][0-9]?)){0,3})")


def written(thing):
    """A moment."""
    return ".".join(map(str, thing))


def written_deed(deed):
    act, sets = deed
    head = {0: "do", 2: "to {1}", 3: "of {1} {2}"}[len(act)].format(*act)
    return head + "".join([f" {name}={number}" for name, number in sets])


def written_run(run):
    return " | ".join([" ; ".join(map(written_deed, row)) or "-" for row in run])


def written_test(test):
    word, *rest = test
    if word in ("and", "or"):
        return f"{word} ( " + " , ".join(map(written_test, rest[0])) + " )"
    if word == "not":
        return "not " + written_test(rest[0])
    return " ".join(map(str, test))


def written_saying(saying):
    word, *rest = saying
    if word == "all":
        return "all ( " + "".join([" , " * (k > 0) + written_saying(part) for k, part in enumerate(rest[0])]) + (
            " )" if rest[0] else ")")
    told = [word]
    for part in rest:
        if type(part) is tuple:
            told.append(written_test(part) if word == "hand" else written_saying(part))
        else:
            told.append(str(part))
    return " ".join(told)


def written_slice(lot):
    if lot is None:
        return "none"
    rows = [" ".join(["x" if first is None else written(first) for first in row]) or "-" for row in lot[1]]
    return " | ".join([written(lot[0])] + rows)


def written_sum(total):
    return " , ".join([f"{hand} {name} {weight}" for hand, name, weight in total])


def written_tests(tests):
    return " , ".join([f"{hand} {written_test(test)}" for hand, test in tests])


def is_deed_text(text):
    found = DEED.fullmatch(text)
    if not found:
        return False
    names = [part.split("=")[0] for part in found[2].split()]
    return names == sorted(set(names))


def texts_otherwise(rng, text, many=30):
    """The text with a sign out, put in, twice, otherwise; with words out, in, exchanged, twice; with blanks more."""
    yield from ("", " ", text + " ", " " + text, text + "\n", text + "\t", text.upper(), text.replace(" ", "  "),
                text.replace(" ", "\t"), text.replace(" ", ""), text + " " + text, text[::-1], text + " , " + text)
    for kind in rng.choices(("out", "in", "twice", "other", "words", "words", "words", "figures"), k=many):
        at = rng.randrange(len(text)) if text else 0
        sign = rng.choice(" .,;|=-+()0123456789abxyz\tAndorK")
        if kind == "out":
            yield text[:at] + text[at + 1:]
        elif kind == "in":
            yield text[:at] + sign + text[at:]
        elif kind == "twice":
            yield text[:at] + text[at:at + 1] + text[at:]
        elif kind == "other":
            yield text[:at] + sign + text[at + 1:]
        elif kind == "figures":
            figures = [found.span() for found in re.finditer("[0-9]+", text)]
            if figures:
                low, high = rng.choice(figures)
                number = text[low:high]
                other = rng.choice(("0" + number, "+" + number, "-" + number, "-0", number + "0", number + "9" * 40,
                                    "\u0663", "\u00b2", "\uff11", "", number + "." + number, str(int(number) + 1),
                                    "1_0", "0x1", "1e1", "7", "0"))
                yield text[:low] + other + text[high:]
        else:
            yield words_otherwise(rng, text)


def words_otherwise(rng, text):
    words = text.split(" ")
    at, other = rng.randrange(len(words)), rng.randrange(len(words))
    kind = rng.choice(("exchanged", "twice", "out", "in"))
    if kind == "exchanged":
        words[at], words[other] = words[other], words[at]
    elif kind == "twice":
        words.insert(at, words[other])
    elif kind == "out":
        del words[at]
    else:
        words.insert(at, rng.choice(("(", ")", ",", ";", "|", "and", "not", "do", "end", "all", "0", "1", "x", "-", "",
                                     "till", "hand", "done", "is", "to", "of", "most")))
    return " ".join(words)

"""Runs to test with, and what the document says of them, looked for in the plainest way.

Nothing here calls the program: what it tells is held against this.
"""

import itertools
import random

DO = ((), ())


def do(*sets):
    return ((), sets)


def send(other, *sets):
    return (("send", other), sets)


def take(other, place, *sets):
    return (("take", other, place), sets)


EMPTY = ((),)
HANDS_WITHOUT_DEEDS = ((), (), ())
ALONE = ((do(("a", 1)), do(("a", 2), ("b", 3)), DO),)
# The document's own example of a written run.
WRITTEN = ((send(1, ("x", 3)), DO), (take(0, 0),))
FREE = ((DO, DO), (DO,), (DO, DO, DO))
ASKED = (
    (send(1, ("x", 1)), take(1, 1, ("x", 2)), DO),
    (take(0, 0), send(0, ("y", 7)), DO),
)
RELAY = (
    (DO, send(1), DO),
    (DO, take(0, 1), send(2), DO),
    (DO, take(1, 2), DO),
)
# Two letters on one road, the later one taken first; one more that nobody takes.
CROSSED = (
    (send(1), send(1), send(1), send(2)),
    (take(0, 1), take(0, 0), DO),
    (DO, DO),
)
MANY = tuple([tuple([DO] * 8)] * 6)
LONG = tuple([tuple([DO] * 12)] * 4)
# 48 deeds by which two hands write to each other, two more listen.
BUSY = (
    tuple([send(1) if at % 2 == 0 else take(1, at) for at in range(12)]),
    tuple([take(0, at) if at % 2 == 0 else send(0) for at in range(12)]),
    tuple([DO] * 12),
    tuple([send(0)] * 12),
)

SMALL = (EMPTY, HANDS_WITHOUT_DEEDS, ALONE, WRITTEN, FREE, ASKED, RELAY, CROSSED)

DEEP = ()
for _ in range(29):
    DEEP = (DEEP,)

# None of these is a run, a deed, a row of counts, a name or a number that is asked for.
ODD = (
    None, True, False, -1, -10 ** 39, 10 ** 40 - 1, "", " ", "A", "abcdefg", "a1", "\n", "send", "~",
    [], {}, [[]], {"a": 1}, {0: ()}, [()], (None,), ([],), ({},), ("a",), ("",), (True,), ((), (), None),
    ((True, False),), (((),),), ("take", 0, 0), ("send", 1), (-1,), (0, -1), (-1, 0), DEEP, [DEEP], [0, 0],
)


def random_run(rng, most_deeds=12):
    """A run made deed by deed in some order, so that it surely is one."""
    many = rng.randint(1, 4)
    rows = [[] for _ in range(many)]
    under_way = []
    for _ in range(rng.randint(0, most_deeds)):
        hand = rng.randrange(many)
        if len(rows[hand]) == 12:
            continue
        mine = [at for at, letter in enumerate(under_way) if letter[2] == hand]
        word = rng.choice(("do", "send", "take"))
        sets = random_sets(rng)
        if word == "take" and mine:
            sender, place, _ = under_way.pop(rng.choice(mine))
            rows[hand].append(take(sender, place, *sets))
        elif word == "send" and many > 1:
            other = rng.choice([each for each in range(many) if each != hand])
            under_way.append((hand, len(rows[hand]), other))
            rows[hand].append(send(other, *sets))
        else:
            rows[hand].append(do(*sets))
    return tuple([tuple(row) for row in rows])


def random_sets(rng):
    names = sorted(rng.sample(("a", "b", "x", "yy"), rng.choice((0, 0, 1, 2, 3))))
    return tuple([(name, rng.randint(0, 99)) for name in names])


def random_runs(seed, many, most_deeds=12):
    rng = random.Random(seed)
    return [random_run(rng, most_deeds) for _ in range(many)]


def places(run):
    return [(hand, place) for hand in range(len(run)) for place in range(len(run[hand]))]


def is_moment_by_definition(run, counts):
    for hand, count in enumerate(counts):
        for act, _ in run[hand][:count]:
            if act[:1] == ("take",) and not act[2] < counts[act[1]]:
                return False
    return True


def moments_by_definition(run):
    ranges = [range(len(row) + 1) for row in run]
    return [counts for counts in itertools.product(*ranges) if is_moment_by_definition(run, counts)]


def below(one, other):
    return all(low <= high for low, high in zip(one, other))


def links(run):
    """All pairs of deeds of which the first leads straight to the second."""
    found = set()
    for hand, place in places(run):
        if place:
            found.add(((hand, place - 1), (hand, place)))
        act = run[hand][place][0]
        if act[:1] == ("take",):
            found.add((act[1:], (hand, place)))
    return found


def known_pairs(run):
    """All pairs of deeds of which a chain leads from the first to the second."""
    known = {(deed, deed) for deed in places(run)} | links(run)
    while True:
        more = {(one, three) for one, two in known for also, three in known if two == also}
        if more <= known:
            return known
        known |= more


def under_way_by_definition(run, one, other, moment):
    sent = sum(act == ("send", other) for act, _ in run[one][:moment[one]])
    taken = sum(act[:2] == ("take", one) for act, _ in run[other][:moment[other]])
    return sent - taken


def ways_by_definition(run):
    hands = [hand for hand, row in enumerate(run) for _ in row]
    return {way for way in itertools.permutations(hands) if is_way_by_definition(run, way)}


def is_way_by_definition(run, way):
    counts = [0] * len(run)
    for hand in way:
        counts[hand] += 1
        if counts[hand] > len(run[hand]) or not is_moment_by_definition(run, counts):
            return False
    return len(way) == len(places(run))


def stands_by_definition(run, way):
    return tuple([tuple([way[:k].count(hand) for hand in range(len(run))]) for k in range(len(way) + 1)])

"""What the document says of tests, sayings and lots, looked for in the plainest way, and drawn ones to try it on.

Nothing here calls the program: what it tells is held against this. Lots are sets of moments here.
"""

import functools
import itertools

from tests.samples import below, is_moment_by_definition, moments_by_definition, places

NAMES = ("a", "b", "x", "yy", "zz")
ROAD_WORDS = ("most", "least", "just")


def worth_by_definition(row, count, name):
    settings = [number for _, sets in row[:count] for each, number in sets if each == name]
    return settings[-1] if settings else 0


def holds_by_definition(row, count, test):
    word, *rest = test
    if word == "done":
        return count >= rest[0]
    if word == "not":
        return not holds_by_definition(row, count, rest[0])
    if word == "and":
        return all(holds_by_definition(row, count, part) for part in rest[0])
    if word == "or":
        return any(holds_by_definition(row, count, part) for part in rest[0])
    worth = worth_by_definition(row, count, rest[0])
    return {"is": worth == rest[1], "least": worth >= rest[1], "most": worth <= rest[1]}[word]


def random_test(rng, depth=4, atoms=12):
    """A test of at most so many within one another, and at most so many of the first four kinds."""
    word = rng.choice(("is", "least", "most", "done", "not", "and", "or"))
    if depth == 1 or word in ("is", "least", "most", "done"):
        if word not in ("is", "least", "most"):
            return ("done", rng.randint(0, 12))
        return (word, rng.choice(NAMES), rng.choice((0, rng.randint(0, 99), 99)))
    if word == "not" or atoms < 4:
        return ("not", random_test(rng, depth - 1, atoms))
    many = rng.randint(2, 4)
    return (word, tuple([random_test(rng, depth - 1, atoms // many) for _ in range(many)]))


@functools.lru_cache(maxsize=None)
def all_ways(run):
    """The stands of each way."""
    end = tuple([len(row) for row in run])

    def further(stands):
        if stands[-1] == end:
            yield stands
        for hand in range(len(run)):
            counts = stands[-1][:hand] + (stands[-1][hand] + 1,) + stands[-1][hand + 1:]
            if below(counts, end) and is_moment_by_definition(run, counts):
                yield from further(stands + (counts,))

    return list(further(((0,) * len(run),)))


def along_ways(run, moments, start, goal, keeps):
    """The pairs of start and goal that some way has, in this order, all between them kept."""
    found = set()
    for stands in all_ways(run):
        for at, one in enumerate(stands):
            if one not in start or one not in keeps:
                continue
            for other in stands[at:]:
                if other not in keeps:
                    break
                if other in goal:
                    found.add((one, other))
    return found


def meaning(run, saying):
    """All moments that fulfil the saying, word for word by [9]."""
    moments = set(moments_by_definition(run))
    word, *rest = saying
    if word == "begin":
        return {(0,) * len(run)}
    if word == "end":
        return {tuple([len(row) for row in run])}
    if word == "hand":
        hand, test = rest
        return {moment for moment in moments if holds_by_definition(run[hand], moment[hand], test)}
    if word == "road":
        return {moment for moment in moments if fits_road(run, moment, *rest)}
    if word == "all":
        return moments.intersection(*[meaning(run, part) for part in rest[0]])
    inner = meaning(run, rest[-1])
    if word == "on":
        return {one for one in moments if all(other in inner for other in moments if below(one, other))}
    if word == "back":
        return {one for one in moments if all(other in inner for other in moments if below(other, one))}
    if word in ("knows", "holds"):
        judge = all if word == "knows" else any
        hand = rest[0]
        return {one for one in moments if judge([other in inner for other in moments if other[hand] == one[hand]])}
    keeps = meaning(run, rest[0])
    if word == "till":
        return {one for one, _ in along_ways(run, moments, moments, inner, keeps)}
    return {other for _, other in along_ways(run, moments, inner, moments, keeps)}


def fits_road(run, moment, one, other, word, k):
    sent = [place for place, (act, _) in enumerate(run[one][:moment[one]]) if act == ("send", other)]
    taken = [act[2] for act, _ in run[other][:moment[other]] if act[:2] == ("take", one)]
    many = len([place for place in sent if place not in taken])
    return {"most": many <= k, "least": many >= k, "just": many == k}[word]


def random_saying(rng, run, depth=6, size=24):
    """A saying of the run of at most so many within one another, and at most so many in all."""
    words = ["begin", "end", "hand", "hand", "road", "road"]
    if depth > 1 and size > 1:
        words += ["all", "on", "back", "knows", "holds", "holds"]
    if depth > 1 and size > 2:
        words += ["all", "till", "till", "till", "since", "since", "since"]
    word = rng.choice(words)
    if word == "road" and len(run) > 1:
        return (word, *rng.sample(range(len(run)), 2), rng.choice(ROAD_WORDS), rng.choice((0, 0, 1, 1, 2, 12)))
    if word in ("hand", "road"):
        return ("hand", rng.randrange(len(run)), random_test(rng))
    if word == "all":
        many = rng.randint(0, min(4, size - 1))
        return (word, tuple([random_saying(rng, run, depth - 1, (size - 1) // many) for _ in range(many)]))
    if word in ("till", "since"):
        first = random_saying(rng, run, depth - 1, (size - 1) // 2)
        return (word, first, random_saying(rng, run, depth - 1, (size - 1) // 2))
    if word in ("on", "back"):
        return (word, random_saying(rng, run, depth - 1, size - 1))
    if word in ("knows", "holds"):
        return (word, rng.randrange(len(run)), random_saying(rng, run, depth - 1, size - 1))
    return (word,)


def inner_sayings(saying):
    """All sayings in it, itself first."""
    word, *rest = saying
    parts = {"hand": (), "road": (), "begin": (), "end": (), "all": rest[0] if rest else (),
             "knows": rest[1:], "holds": rest[1:]}.get(word, rest)
    return [saying] + [each for part in parts for each in inner_sayings(part)]


def depth_of(saying):
    return max([1 + depth_of(part) for part in inner_sayings(saying)[1:]], default=1)


def lesser(one, other):
    return tuple(map(min, one, other))


def greater(one, other):
    return tuple(map(max, one, other))


def is_lot(moments):
    return all(lesser(*pair) in moments and greater(*pair) in moments for pair in itertools.combinations(moments, 2))


def closed(moments):
    """The least lot that has all of them."""
    lot = set(moments)
    while not is_lot(lot):
        lot |= {make(*pair) for pair in itertools.combinations(lot, 2) for make in (lesser, greater)}
    return lot


def all_lots(run):
    """Each lot of a run that has few moments."""
    moments = moments_by_definition(run)
    chosen = itertools.chain.from_iterable([itertools.combinations(moments, k) for k in range(len(moments) + 1)])
    return [set(lot) for lot in chosen if is_lot(lot)]


def random_lots(rng, run, many):
    """Lots spanned by some of the run's moments, drawn, the empty one and that of all, too."""
    moments = moments_by_definition(run)
    drawn = [closed(rng.sample(moments, min(len(moments), rng.randint(1, 4)))) for _ in range(many)]
    return drawn + [set(), set(moments)]


def drawn_like(rng, run, lot):
    """Some moments, of the lot and of all."""
    moments = moments_by_definition(run)
    return rng.sample(sorted(lot), min(len(lot), 3)) + rng.sample(moments, min(len(moments), 3))


def slice_by_definition(run, lot):
    """Least and firsts, each the one moment of the lot that is at or below all others that have the deed."""
    if not lot:
        return None

    def least_of(chosen):
        return next((one for one in chosen if all(below(one, other) for other in chosen)), None)

    firsts = [[least_of([each for each in lot if each[hand] > place]) for place in range(len(row))]
              for hand, row in enumerate(run)]
    return (least_of(lot), tuple([tuple(row) for row in firsts]))


def is_in_by_look(thing, moment):
    least, firsts = thing
    if not below(least, moment):
        return False
    lasts = [firsts[hand][count - 1] for hand, count in enumerate(moment) if count]
    return all(first is not None and below(first, moment) for first in lasts)


def is_counts_by_definition(run, thing):
    """Whether it is a moment, of anything."""
    if type(thing) is not tuple or len(thing) != len(run):
        return False
    if not all(type(count) is int and 0 <= count <= len(row) for count, row in zip(thing, run)):
        return False
    return is_moment_by_definition(run, thing)


def is_slice_by_definition(run, thing):
    """Word for word by [10], of anything."""
    if thing is None:
        return True
    if type(thing) is not tuple or len(thing) != 2 or not is_counts_by_definition(run, thing[0]):
        return False
    least, firsts = thing
    if type(firsts) is not tuple or len(firsts) != len(run):
        return False
    for row, deeds in zip(firsts, run):
        if type(row) is not tuple or len(row) != len(deeds):
            return False
        if not all(first is None or is_counts_by_definition(run, first) for first in row):
            return False
    told = {(hand, place): firsts[hand][place] for hand, place in places(run) if firsts[hand][place] is not None}
    if not is_in_by_look(thing, least) or not all(is_in_by_look(thing, first) for first in told.values()):
        return False
    for (hand, place), first in told.items():
        if first[hand] <= place or not below(least, first):
            return False
        if place and ((hand, place - 1) not in told or not below(told[hand, place - 1], first)):
            return False
    return True

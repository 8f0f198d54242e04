"""A test of refusals that serves each def alike.

A CALL is told by what it is called with, argument by argument as the interface lists
them, and for each argument by what is none of its kind and how that is refused.
"""

from mighthave.errors import NoCounts, NoHand, NoMoment, NoMoments, NoName, NoNumber, NoPlace, NoRun, NoSaying
from mighthave.errors import NoSayings, NoSlice, NoSum, NoTest, NoTests, NoWay, Unfit
from tests.samples import DEEP, DO, ODD, WRITTEN, send, take

BEARS = {NoHand: "hand", NoPlace: "deed", NoNumber: "number"}

# What each argument is refused by, of the run WRITTEN: two hands, of two deeds and of one.
NO_RUNS = ODD + (
    (), 0, [WRITTEN[0], WRITTEN[1]], (list(WRITTEN[0]), WRITTEN[1]), WRITTEN + ((None,),), ((DO,), (take(0, 0),)),
    ((send(0),),), ((send(1),),), ((),) * 7,
)
NO_HANDS = ODD + (2, 6, (0,), "0", (), [0], (0, 0))
NO_PLACES = ODD + ((0, 2), (1, 1), (2, 0), (0, 0, 0), [0, 0], (False, 0), (0, False), (0,), (), 0, ("0", 0), ((0, 0),))
NO_MOMENTS = ODD + (
    (0, 1), (3, 0), (2, 2), (0, 0, 0), (0,), (), [0, 0], (False, 0), (2, True), (None, 0), 0, ("0", "0"), ((0, 0),),
)
NO_NAMES = tuple([thing for thing in ODD if thing != "send"]) + (0, "aB", "a ", "a\n", "ab1", ("a",), ["a"], "0")
NO_COUNTS = ODD + (3, 4, "0", (0,), [1])
NO_WAYS = ODD + (
    (), (0, 0), (1, 0, 0), (0, 0, 1, 1), (0, 0, 0), (0, 1, True), (0, 1, 2), [0, 0, 1], "001", (0, 0, -1), (0, 0, None),
    0,
)
NO_CLIMBS = tuple([thing for thing in ODD if thing != ()]) + (
    0, [(0, 0)], ((0, 1),), ((1, 0), (0, 0)), ((2, 0), (1, 1)), ((1, 1), (2, 0)), ((0, 0), [2, 1]), ((0, 0), None),
    ((0, 0), (True, 0)), (0, 0), ((0, 0), (3, 1)),
)
NO_MOSTS = ODD + (0, 5001, "1", (1,), [2000])
NO_TESTS = ODD + (
    0, "done", ("done",), ("done", 13), ("done", -1), ("done", True), ("done", "1"), ("done", 1, 1), ["done", 1],
    ("is", "a"), ("is", 1), ("is", "a", 100), ("is", "A", 1), ("least", "a", -1), ("most", "abcdefg", 1),
    ("most", "a", True), ("is", ["a"], 1), ("is", "a", 1, 1), ("just", "a", 1), ("not",), ("not", ()), ("not", None),
    ("not", ("done", 1), ("done", 1)), ("not", "done", 1), ("and", ()), ("and", (("done", 1),)), ("and",),
    ("and", ("done", 1), ("done", 1)), ("and", [("done", 1), ("done", 1)]), ("or", (("done", 1),) * 5),
    ("or", (("done", 1), None)), ("or", None), ("or", 2), ("or", {"a": 1, "b": 2}), (["done"], 1), (("done", 1),),
    ({}, 1), ((), "a", 1), ("nor", (("done", 1), ("done", 1))), ("end",), ("all", ()),
)
NO_SAYINGS = ODD + (
    0, "begin", ("begin", 0), ("end", ()), ["end"], ("hand", 0), ("hand", 2, ("done", 1)), ("hand", True, ("done", 1)),
    ("hand", 0, ("done", 13)), ("hand", 0, ("end",)), ("hand", 0, ("done", 1), 0), ("done", 1), ("road", 0, 1, "most"),
    ("road", 0, 0, "most", 1), ("road", 0, 2, "most", 1), ("road", 2, 0, "most", 1), ("road", 0, 1, "is", 1),
    ("road", 0, 1, "most", 13), ("road", 0, 1, "most", -1), ("road", 0, True, "most", 1), ("road", False, 1, "most", 1),
    ("road", 0, 1, ["most"], 1), ("road", 0, 1, "most", True), ("road", 0, 1, "most", 1, 1), ("all",), ("all", None),
    ("all", ("end",)), ("all", [("end",)]), ("all", (("end",),) * 5), ("all", (("end",), None)), ("all", ("end",), ()),
    ("till", ("end",)), ("till", ("end",), None), ("till", ("end",), ["end"]), ("till", (("end",), ("end",))),
    ("since", ("end",), ("end",), ("end",)), ("on",), ("on", "end"), ("on", ("end",), ("end",)), ("back", ()),
    ("knows", ("end",)), ("knows", 2, ("end",)), ("knows", True, ("end",)), ("knows", 0, ("end",), ("end",)),
    ("holds", -1, ("end",)), ("holds", 0, ("done", 1)), ("holds", 0, "end"), (["end"],), (("end",),), ({},), ("END",),
)
# Of the run WRITTEN: each of these is the slice of no lot.
NO_SLICES = tuple([thing for thing in ODD if thing is not None]) + (
    0, (None, None), ((0, 0),), ((0, 0), ((None, None), (None,)), ()), ((0, 0), ((None, None), ())), ((0, 0), ()),
    ((0, 0), ((None,), (None,))), ((0, 0), ((None, None, None), (None,))), ((0, 0), ((None, None), (None,), ())),
    [(0, 0), ((None, None), (None,))], ([0, 0], ((None, None), (None,))), ((0, 0), [(None, None), (None,)]),
    ((0, 0), ([None, None], (None,))), ((0, 0), (((1, 0), [2, 0]), (None,))), ((0, False), ((None, None), (None,))),
    ((0, 1), (((1, 1), None), ((1, 1),))), ((1, 0), ((None, None), (None,))), ((0, 0), ((None, (2, 0)), (None,))),
    ((0, 0), (((2, 0), (1, 0)), (None,))), ((0, 0), (((1, 0), (1, 0)), (None,))),
    ((0, 0), (((True, 0), None), (None,))),
    ((1, 0), (((2, 0), (2, 0)), (None,))), ((1, 0), (((0, 0), None), (None,))), ((0, 0), (((1, 1), None), (None,))),
    ((0, 0), (((1, 0), (2, 0)), ((0, 1),))), ((0, 0), (((1, 0), (2, 0)), ((3, 1),))), ((0, 0), ("ab", "c")),
    ((0, 0), (((1, 0), 0), (None,))), ((0, 0), (((1, 0), ()), (None,))), ((0, 0), (((1, 0), (2,)), (None,))),
)
NO_COUNT_ROWS = tuple([thing for thing in ODD if thing != ()]) + (
    0, [0], [0, 1], (3,), (0, 3), (1, 0), (1, 1), (0, 0), (True,), (0, True), ("0",), ((0,),), "01", (0, 1, 2, 3),
    {0: 1}, (0, None), (2, 1, 0),
)
NO_SPANNING = ODD + (
    0, (0, 0), [(0, 0)], ((0, 1),), ((1, 0), (0, 1)), ((1, 0), [2, 0]), ((1, 0), None), (((1, 0),),), ((True, 0),),
    ((3, 0),), ((0, 0), (0, 0, 0)), ((0, 0), ()), {(0, 0): 1}, "00",
)
NO_ROAD_WORDS = ODD + (0, "is", "Most", "most ", ("most",), ["most"], "all", {"most": 1})
NO_LETTERS = ODD + (13, 100, "0", (0,), [1], {})
# Each a row with one that is no slice, too many, or no row.
NO_LOTS = tuple([thing for thing in ODD if thing not in ((), (None,))]) + (
    0, (None,) * 5, [None], ((),), (None, ()), (None, 0), ((0, 0),), ((0, 0), ((None, None), (None,))), [()], None,
    ((None, None),), {"a": None}, (((0, 0), ((None, None), (None,))), ((0, 1), ((None, None), (None,)))),
)
# Each a row with one that is no saying, of none, of too many, or no row.
NO_SAYINGS_ROWS = ODD + (
    0, (), (("end",),) * 7, [("end",)], ("end",), (("end",), None), (("end",), ("hand", 2, ("done", 1))),
    (("begin",), ()), (["end"],), ((("end",),),), {("end",): 1}, "end", (("all", None),),
    (("end",), ("road", 0, 2, "most", 0), ("end",)),
)
# Of the lot with all moments of the run WRITTEN: numbers of no moment are refused behind TooWide, these are not.
NO_NUMBERS = tuple([thing for thing in ODD if thing != 10 ** 40 - 1]) + ("0", (0,), [1], {}, -2)
# Of two hands: each of these is no sum of theirs, no tests of theirs.
NO_SUMS = ODD + (
    (), 0, (0, "a", 1), [(0, "a", 1)], ((0, "a", 1), None), ((0, "a", 1), (0, "a", 2)), ((0, "a", 1), (0, "a", 1)),
    ((2, "a", 1),), ((-1, "a", 1),), ((True, "a", 1),), ((0, "A", 1),), ((0, "", 1),), ((0, "abcdefg", 1),),
    ((0, None, 1),), ((0, ["a"], 1),), ((0, "a", 10),), ((0, "a", -10),), ((0, "a", True),), ((0, "a", "1"),),
    ((0, "a"),), ((0, "a", 1, 1),), ([0, "a", 1],), (((0, "a", 1),),), ((None, "a", 1),), (("a", 0, 1),),
    tuple([(hand, name, 1) for hand in (0, 1) for name in "abcdefg"][:13]), ((0, "a", 1), (1, "a", 1), (0, "a", 3)),
    {(0, "a"): 1}, ((0, ("a",), 1),), ((0, "a", None),), ((0, {}, 1),), (("0", "a", 1),), ((0, "a", 10 ** 39),),
)
NO_TESTS_ROWS = ODD + (
    (), 0, (0, ("done", 1)), [(0, ("done", 1))], ((0, ("done", 1)), None), ((2, ("done", 1)),), ((-1, ("done", 1)),),
    ((True, ("done", 1)),), ((0, ("done", 13)),), ((0, "done", 1),), ((0,),), ((0, ("done", 1), 1),),
    ([0, ("done", 1)],), ((0, ["done", 1]),), ((0, None),), ((0, ()),), ((1, ("done", 1)), (0, ("done", 1))),
    ((0, ("done", 1)), (0, ("done", 2))), ((0, ("done", 1)), (0, ("done", 1))), ((0, ("hand", 0, ("done", 1))),),
    ((0, ("done", 1)), (1, ("done", 1)), (1, ("done", 1))), ((0, ("done", 1)), (1, ("done", -1))),
    ((0, ("done", 1)), (1, ("done", 1)), (2, ("done", 1))), {0: ("done", 1)}, ((("done", 1), 0),), (("done", 1),),
    tuple([(hand, ("done", 1)) for hand in range(7)]), ((None, ("done", 1)),), (("0", ("done", 1)),), ((0, {}),),
)
NO_DEED_FORMS = ODD + (
    0, (), ((),), ((), (), ()), [(), ()], (("send",), ()), (("send", 6), ()), (("send", -1), ()), (("send", True), ()),
    (("take", 0), ()), (("take", 0, 12), ()), (("take", 0, -1), ()), (("take", 0, True), ()), (("take", 6, 0), ()),
    (("give", 0), ()), (["send", 0], ()), ((), [("a", 1)]), ((), (("a", 100),)), ((), (("a", 1), ("a", 2))),
    ((), (("b", 1), ("a", 2))), ((), (("A", 1),)), ((), (("a", True),)), ((), (("a",),)), ((), ("a", 1)), ((), None),
    (None, ()), ((), (("a", 1), ("b", 1), ("c", 1), ("d", 1))),
)
# None of hand 1 where there are two hands: letters to and of itself, to and of hands that aren't there.
NO_DEEDS = NO_DEED_FORMS + (
    send(1), send(2), send(5), take(1, 0), take(2, 0), take(5, 11), send(1, ("a", 1)), take(1, 11, ("a", 1)),
)
# More than fits the run WRITTEN at the end of hand 1's row: the letter of (0, 0) is taken there.
NO_GROWTH = NO_DEEDS + (take(0, 0), take(0, 1), take(0, 2), take(0, 11))
NO_HANDS_MANY = ODD + (0, 7, "2", (2,), [2], {})
NO_HEARD_PLACES = ODD + (12, 13, "0", (0,), [0], {})

KINDS = {
    "run": (NoRun, NO_RUNS),
    "hand": (NoHand, NO_HANDS),
    "deed": (NoPlace, NO_PLACES),
    "moment": (NoMoment, NO_MOMENTS),
    "name": (NoName, NO_NAMES),
    "count": (NoNumber, NO_COUNTS),
    "way": (NoWay, NO_WAYS),
    "moments": (NoMoments, NO_CLIMBS),
    "most": (NoNumber, NO_MOSTS),
    "test": (NoTest, NO_TESTS),
    "saying": (NoSaying, NO_SAYINGS),
    "lot": (NoSlice, NO_SLICES),
    "counts": (NoCounts, NO_COUNT_ROWS),
    "spanning": (NoMoments, NO_SPANNING),
    "word": (NoSaying, NO_ROAD_WORDS),
    "letters": (NoNumber, NO_LETTERS),
    "lots": (NoSlice, NO_LOTS),
    "sayings": (NoSayings, NO_SAYINGS_ROWS),
    "number": (NoNumber, NO_NUMBERS),
    "total": (NoSum, NO_SUMS),
    "tests": (NoTests, NO_TESTS_ROWS),
    "form": (Unfit, NO_DEED_FORMS),
    "heard": (Unfit, NO_DEEDS),
    "growth": (Unfit, NO_GROWTH),
    "hands": (NoNumber, NO_HANDS_MANY),
    "place": (NoNumber, NO_HEARD_PLACES),
}


def raised(call, *arguments, **named):
    """What the call raises, or None."""
    try:
        call(*arguments, **named)
    except Exception as error:
        return error
    return None


def check_refused(test, call, kind, bad, named):
    """The call refuses with this class alone, bears what it was handed, and leaves it as it was."""
    before = repr(named)
    error = raised(call, **named)
    where = f"{call.__name__}({', '.join([f'{name}={thing!r}' for name, thing in named.items()])})"
    test.assertIs(kind, type(error), f"{where} raised {error!r}")
    if kind in BEARS:
        test.assertIs(bad, getattr(error, BEARS[kind]), where)
    test.assertEqual(before, repr(named), where)


def check_call(test, call, arguments):
    """Each argument refuses what is none of its kind, the first one ahead of all behind it.

    arguments: rows of (its name, its kind, something good), as the interface lists them.
    """
    good = {name: thing for name, _, thing in arguments}
    told = call(**good)
    test.assertEqual(told, call(**dict(reversed(list(good.items())))))
    for at, (name, kind, _) in enumerate(arguments):
        refusal, bads = KINDS[kind]
        for bad in bads:
            check_refused(test, call, refusal, bad, {**good, name: bad})
            for other, also, _ in arguments[at + 1:]:
                worse = KINDS[also][1]
                for k in (0, len(worse) // 2, len(worse) - 1):
                    check_refused(test, call, refusal, bad, {**good, name: bad, other: worse[k]})


def check_places(test, call, arguments):
    """Arguments may be handed in by their places, too."""
    good = {name: thing for name, _, thing in arguments}
    test.assertEqual(call(**good), call(*good.values()))


def check_anything(test, call, *well):
    """Of anything the call tells a truth, never an error."""
    things = NO_RUNS + NO_MOMENTS + NO_PLACES + NO_WAYS + NO_CLIMBS + NO_TESTS + NO_SAYINGS + NO_SLICES
    for thing in things + NO_COUNT_ROWS + NO_SPANNING + (DEEP, [DEEP]):
        before = repr(thing)
        test.assertIs(bool, type(call(*well, thing)), f"{call.__name__} of {thing!r}")
        test.assertEqual(before, repr(thing))

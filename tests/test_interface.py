"""The interface: each name in its file, with its arguments and their defaults."""

import importlib
import inspect
import unittest

FILES = {
    "mighthave.run.runs": (
        "is_name(thing)", "is_deed(thing)", "is_run(thing)", "deeds_of(run)", "worth_of(run, hand, count, name)",
        "taken_by(run, deed)",
    ),
    "mighthave.run.pasts": (
        "begin_of(run)", "end_of(run)", "is_moment(run, thing)", "is_below(run, one, other)", "meet(run, one, other)",
        "join(run, one, other)", "has(run, moment, deed)", "past_of(run, deed)", "is_known(run, deed, other)",
        "chain_of(run, deed, other)", "shows_chain(run, deed, other, thing)", "under_way(run, one, other, moment)",
    ),
    "mighthave.run.ways": (
        "can_go_on(run, moment)", "can_go_back(run, moment)", "is_way(run, thing)", "stands_of(run, way)",
        "way_by(run, *, moments=())", "all_moments(run, *, most=2000)",
    ),
    "mighthave.say.own": (
        "is_test(thing)", "holds_at(run, hand, count, test)", "where(run, hand, test)", "stretches(run, hand, test)",
    ),
    "mighthave.say.sayings": (
        "is_saying(run, thing)", "size_of(run, saying)", "hands_of(run, saying)", "meant(run, saying, *, most=2000)",
    ),
    "mighthave.lots.slices": (
        "is_slice(run, thing)", "own_slice(run)", "spanned(run, moments)", "is_in(run, lot, moment)",
        "up_from(run, lot, moment)", "down_from(run, lot, moment)", "least_in(run, lot)", "greatest_in(run, lot)",
        "barred_in(run, lot)", "knots_in(run, lot)",
    ),
    "mighthave.lots.plain": (
        "hand_slice(run, hand, counts)", "road_slice(run, one, other, word, k)", "begin_slice(run)", "end_slice(run)",
    ),
    "mighthave.lots.together": (
        "both(run, one, other)", "hull(run, one, other)", "is_within(run, one, other)", "witness(run, one, other)",
        "shows_witness(run, one, other, thing)", "all_of(run, lots)",
    ),
    "mighthave.lots.ahead": (
        "till(run, one, other)", "each_on(run, lot)", "till_paper(run, one, other, moment)",
        "shows_till(run, one, other, moment, thing)", "on_denial(run, lot, moment)",
    ),
    "mighthave.lots.behind": (
        "since(run, one, other)", "each_back(run, lot)", "since_paper(run, one, other, moment)",
        "shows_since(run, one, other, moment, thing)", "back_denial(run, lot, moment)",
    ),
    "mighthave.lots.turned": ("turned(run)", "turned_moment(run, moment)", "turned_slice(run, lot)"),
    "mighthave.lots.knowing": (
        "low_at(run, hand, count)", "high_at(run, hand, count)", "knows_at(run, hand, lot)",
        "holds_possible(run, hand, lot)", "knowing(run, hand, lot)", "holding(run, hand, lot)",
        "doubt(run, hand, lot, moment)", "hangs_on_others(run, hand, lot)", "learned(run, hand, lot)",
        "forgotten(run, hand, lot)",
    ),
    "mighthave.say.told": (
        "tables_of(run, saying)", "shows_tables(run, saying, thing)", "slice_of(run, saying)",
        "is_so(run, saying, moment)", "is_ever(run, saying)", "tells(run, one, other)", "are_one(run, one, other)",
        "is_always(run, saying)",
    ),
    "mighthave.papers.might": ("might_have(run, sayings)", "shows_might(run, sayings, thing)"),
    "mighthave.count.counts": (
        "how_many(run, lot, *, most=2000)", "moments_in(run, lot, *, most=2000)",
        "moment_at(run, lot, number, *, most=2000)", "number_of(run, lot, moment, *, most=2000)",
    ),
    "mighthave.sums.sums": ("is_sum(run, thing)", "sum_at(run, total, moment)", "gains_of(run, total)"),
    "mighthave.sums.flows": (
        "greatest_of(run, lot, total)", "least_of(run, lot, total)", "shows_greatest(run, lot, total, thing)",
        "shows_least(run, lot, total, thing)",
    ),
    "mighthave.sums.between": ("between(run, lot, total, number)",),
    "mighthave.must.must": ("are_tests(run, thing)", "must_have(run, tests)", "shows_must(run, tests, thing)"),
    "mighthave.words.texts": (
        "moment_text(moment)", "way_text(way)", "deed_text(deed)", "run_text(run)", "test_text(test)",
        "saying_text(saying)", "slice_text(run, lot)", "sum_text(total)", "tests_text(tests)", "read_deed(text)",
        "read_run(text)", "read_saying(run, text)", "read_sum(run, text)", "read_tests(run, text)",
    ),
}
# Each class with its methods, as each stands in its own body.
CLASSES = {
    "mighthave.book.book.Book": (
        "__init__(self, run)", "grow(self, hand, deed)", "say(self, name, saying)", "drop(self, name)", "back(self)",
        "run(self)", "names(self)", "saying(self, name)", "slice_of(self, name)", "news(self)", "__eq__(self, other)",
        "__len__(self)", "__repr__(self)",
    ),
    "mighthave.watch.watch.Watch": (
        "__init__(self, hands, tests)", "hears(self, hand, place, deed)", "told(self)", "front(self)", "token(self)",
        "letters(self)", "stands(self, hand, place)", "__eq__(self, other)", "__len__(self)", "__repr__(self)",
    ),
    "mighthave.words.desk.Desk": (
        "__init__(self)", "say(self, row)", "many(self, rows)", "log(self)", "book(self)", "__len__(self)",
    ),
}
VALUES = {
    "mighthave.run.runs": {"MOST_HANDS": 6, "MOST_DEEDS": 12, "MOST_IN_ALL": 48},
    "mighthave.run.ways": {"MOST": 2000, "MOST_EVER": 5000},
    "mighthave.lots.plain": {"WORDS": ("most", "least", "just")},
}


class Interface(unittest.TestCase):

    def test_defs(self):
        for name, defs in FILES.items():
            module = importlib.import_module(name)
            for line in defs:
                found = getattr(module, line.partition("(")[0])
                self.assertEqual(line, found.__name__ + str(inspect.signature(found)))
                self.assertEqual(name, found.__module__)

    def test_classes(self):
        for name, methods in CLASSES.items():
            module, _, word = name.rpartition(".")
            made = getattr(importlib.import_module(module), word)
            self.assertEqual(module, made.__module__)
            for line in methods:
                found = vars(made)[line.partition("(")[0]]
                self.assertEqual(line, found.__name__ + str(inspect.signature(found)))

    def test_values(self):
        for name, values in VALUES.items():
            for word, told in values.items():
                self.assertEqual(told, getattr(importlib.import_module(name), word))


if __name__ == "__main__":
    unittest.main()

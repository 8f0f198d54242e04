"""The interface: each name in its file, with its arguments and their defaults."""

import importlib
import inspect
import unittest

FILES = {
    "mighthave.run.runs": (
        "is_name(thing)", "is_deed(thing)", "is_run(thing)", "deeds_of(run)", "worth_of(run, hand, count, name)",
        "taken_by(run, deed)",
    ),
    "mighthave.run.pasts": (
        "begin_of(run)", "end_of(run)", "is_moment(run, thing)", "is_below(run, one, other)", "meet(run, one, other)",
        "join(run, one, other)", "has(run, moment, deed)", "past_of(run, deed)", "is_known(run, deed, other)",
        "chain_of(run, deed, other)", "shows_chain(run, deed, other, thing)", "under_way(run, one, other, moment)",
    ),
    "mighthave.run.ways": (
        "can_go_on(run, moment)", "can_go_back(run, moment)", "is_way(run, thing)", "stands_of(run, way)",
        "way_by(run, *, moments=())", "all_moments(run, *, most=2000)",
    ),
    "mighthave.say.own": (
        "is_test(thing)", "holds_at(run, hand, count, test)", "where(run, hand, test)", "stretches(run, hand, test)",
    ),
    "mighthave.say.sayings": (
        "is_saying(run, thing)", "size_of(run, saying)", "hands_of(run, saying)", "meant(run, saying, *, most=2000)",
    ),
    "mighthave.lots.slices": (
        "is_slice(run, thing)", "own_slice(run)", "spanned(run, moments)", "is_in(run, lot, moment)",
        "up_from(run, lot, moment)", "down_from(run, lot, moment)", "least_in(run, lot)", "greatest_in(run, lot)",
        "barred_in(run, lot)", "knots_in(run, lot)",
    ),
    "mighthave.lots.plain": (
        "hand_slice(run, hand, counts)", "road_slice(run, one, other, word, k)", "begin_slice(run)", "end_slice(run)",
    ),
}


class Interface(unittest.TestCase):

    def test_defs(self):
        for name, defs in FILES.items():
            module = importlib.import_module(name)
            for line in defs:
                found = getattr(module, line.partition("(")[0])
                self.assertEqual(line, found.__name__ + str(inspect.signature(found)))
                self.assertEqual(name, found.__module__)


if __name__ == "__main__":
    unittest.main()

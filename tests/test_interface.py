"""Rule [7] and the interface: names, parameters, and where each function and class is defined."""

import inspect
import unittest

from pileups import desk, endless, flows, guards, learnt, likeness, logs, moments, plans, safety, sightings, stocks
from pileups import tables, together, words

FUNCTIONS = {
    words: {
        "is_integer": "(value)", "is_count": "(value)", "is_name": "(value)",
        "parse_integer": "(text, *, low=None, high=None)", "split_words": "(text)",
    },
    plans: {"read_plan": "(text)"},
    moments: {
        "is_counts": "(plan, value)", "is_moment": "(plan, counts)", "barred": "(plan, counts)",
        "come": "(plan, counts)", "came": "(plan, counts)", "behind": "(plan, run, *, begin=None)",
        "run_to": "(plan, counts, *, begin=None)", "higher": "(plan, one, other)", "lower": "(plan, one, other)",
    },
    likeness: {
        "within": "(one, other)", "alike": "(one, other)", "needless": "(plan)", "fewest": "(plan)",
        "seen": "(plan, names)", "spanned": "(one, other)",
    },
    stocks: {
        "read_stock": "(text)", "level": "(plan, stock, counts)", "levels": "(plan, stock, run)",
        "greatest": "(plan, stock)", "least": "(plan, stock)",
    },
    flows: {
        "flow": "(plan, stock)", "is_flow": "(plan, stock, bound, value)", "is_pump": "(plan, stock, value)",
        "pumps": "(plan)",
    },
    safety: {
        "safe": "(plan, bounds)", "least_start": "(plan, stock, low)", "greatest_lag": "(plan, index, bounds)",
        "further": "(plan, bounds, ties)",
    },
    sightings: {
        "is_sure": "(plan, earlier, k, later, j)", "otherwise": "(plan, earlier, k, later, j)",
    },
    logs: {
        "misfit": "(plan, names, log)", "coming": "(plan, names, log)", "filled": "(plan, names, log)",
        "future": "(plan, names, log)", "parting": "(plan, names, one, other)",
    },
    endless: {
        "endless": "(plan)", "groups": "(plan)", "closed": "(plan, events)", "is_bounded": "(plan, stock)",
        "sums": "(plan, stock)",
    },
    learnt: {"learnt": "(events, logs)", "is_told": "(plan, logs)", "teaching": "(plan)"},
    guards: {
        "remaining": "(plan, counts)", "outburst": "(plan, bounds, ours, counts)",
        "may_come": "(plan, bounds, ours, counts)", "unguarded": "(plan, bounds, ours, run)",
    },
    together: {"composed": "(one, other)", "held_back": "(one, other)", "renaming": "(one, other)"},
}

METHODS = {
    plans.Plan: {
        "__init__": "(self, events, ties=(), *, limits=None)", "events": "(self)", "ties": "(self)",
        "limits": "(self)", "limit": "(self, event)", "tied": "(self, earlier, later, lag)",
        "untied": "(self, index)", "limited": "(self, event, limit)", "both": "(self, other)",
    },
    tables.Table: {
        "__init__": "(self, plan)", "lead": "(self, earlier, later)", "most": "(self, event)",
        "chain": "(self, earlier, later)", "held": "(self, event)", "least": "(self, event, count)",
        "shown": "(self, earlier, later)",
    },
    stocks.Stock: {
        "__init__": "(self, start=0, amounts=None)", "amounts": "(self)", "amount": "(self, event)",
        "need_fit": "(self, plan)",
    },
    sightings.Sighting: {
        "__init__": "(self, plan, *, low=None, high=None)", "is_possible": "(self)", "least": "(self, event)",
        "greatest": "(self, event)", "lead": "(self, earlier, later)", "least_counts": "(self)",
        "greatest_counts": "(self)", "narrowed": "(self, event, *, low=None, high=None)",
    },
    desk.Desk: {
        "__init__": "(self)", "names": "(self)", "plan": "(self)", "counts": "(self)", "put": "(self, name, entry)",
        "drop": "(self, name)", "begin": "(self, name)", "do": "(self, events)", "undo": "(self)", "redo": "(self)",
        "copied": "(self)", "run": "(self, line)", "run_all": "(self, lines)",
    },
}

SPECIAL = {
    plans.Plan: ["__len__", "__contains__", "__eq__", "__str__"],
    tables.Table: ["__eq__"],
    stocks.Stock: ["__eq__", "__add__", "__sub__", "__neg__", "__str__"],
    sightings.Sighting: [],
    desk.Desk: ["__getitem__", "__len__", "__contains__", "__eq__"],
}

HOMES = {
    plans.Plan: "pileups.plans", tables.Table: "pileups.tables", stocks.Stock: "pileups.stocks",
    sightings.Sighting: "pileups.sightings", desk.Desk: "pileups.desk",
}


class TestInterface(unittest.TestCase):
    def test_functions(self):
        for module, signatures in FUNCTIONS.items():
            for name, signature in signatures.items():
                function = getattr(module, name)
                self.assertEqual(str(inspect.signature(function)), signature)
                self.assertEqual(function.__module__, module.__name__)

    def test_methods_stand_in_the_class_itself(self):
        for owner, signatures in METHODS.items():
            self.assertEqual(owner.__module__, HOMES[owner])
            for name, signature in signatures.items():
                self.assertEqual(str(inspect.signature(vars(owner)[name])), signature)
            for name in SPECIAL[owner]:
                self.assertIn(name, vars(owner))

    def test_properties_stand_in_the_class_itself(self):
        self.assertIsInstance(vars(stocks.Stock)["start"], property)


if __name__ == "__main__":
    unittest.main()

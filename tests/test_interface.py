"""Rule [7] and the interface: names, parameters, and where each function and class is defined."""

import inspect
import unittest

from pileups import moments, plans, words

FUNCTIONS = {
    words: {
        "is_integer": "(value)", "is_count": "(value)", "is_name": "(value)",
        "parse_integer": "(text, *, low=None, high=None)", "split_words": "(text)",
    },
    plans: {"read_plan": "(text)"},
    moments: {
        "is_counts": "(plan, value)", "is_moment": "(plan, counts)", "barred": "(plan, counts)",
        "come": "(plan, counts)", "came": "(plan, counts)", "behind": "(plan, run, *, begin=None)",
        "run_to": "(plan, counts, *, begin=None)", "higher": "(plan, one, other)", "lower": "(plan, one, other)",
    },
}

PLAN_METHODS = {
    "__init__": "(self, events, ties=(), *, limits=None)", "events": "(self)", "ties": "(self)",
    "limits": "(self)", "limit": "(self, event)", "tied": "(self, earlier, later, lag)",
    "untied": "(self, index)", "limited": "(self, event, limit)", "both": "(self, other)",
}


class TestInterface(unittest.TestCase):
    def test_functions(self):
        for module, signatures in FUNCTIONS.items():
            for name, signature in signatures.items():
                function = getattr(module, name)
                self.assertEqual(str(inspect.signature(function)), signature)
                self.assertEqual(function.__module__, module.__name__)

    def test_methods_stand_in_the_class_itself(self):
        self.assertEqual(plans.Plan.__module__, "pileups.plans")
        for name, signature in PLAN_METHODS.items():
            self.assertEqual(str(inspect.signature(vars(plans.Plan)[name])), signature)
        for name in ["__len__", "__contains__", "__eq__", "__str__"]:
            self.assertIn(name, vars(plans.Plan))


if __name__ == "__main__":
    unittest.main()

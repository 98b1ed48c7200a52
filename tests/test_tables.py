"""Promises [41], [42] and [43]: closed tables."""

import itertools
import unittest

from by_hand import all_moments, far_plans, greatest_count, greatest_lead, is_least, keeps, like_plans, small_plans
from odd_values import no_counts, no_names
from pileups.errors import InvalidInteger, InvalidPlan, UnknownEvent
from pileups.plans import Plan
from pileups.tables import Table
from raising import RaisingCase

# More than any finite lead or count of the small plans and of the like plans.
FAR = 7


def example():
    ties = [("load", "test", 0), ("test", "sell", 1), ("sell", "load", 3)]
    return Plan(["load", "test", "sell"], ties, limits={"sell": 5})


def told(load, test, sell):
    return {"load": load, "test": test, "sell": sell}


def pairs_of(plan):
    return itertools.product(plan.events(), repeat=2)


class TestLeads(RaisingCase):
    def test_example(self):
        table = Table(example())
        self.assertEqual([table.lead("load", "sell"), table.lead("sell", "load"), table.most("load")], [1, 3, 8])
        self.assertEqual(table.chain("load", "sell"), [("tie", 0), ("tie", 1)])
        self.assertEqual(table.held("load"), [("limit", "sell"), ("tie", 2)])

    def test_leads_by_the_definition(self):
        for plan in small_plans() + like_plans():
            table = Table(plan)
            for earlier, later in pairs_of(plan):
                wanted = greatest_lead(plan, earlier, later, FAR)
                self.assertEqual(table.lead(earlier, later), wanted, (str(plan), earlier, later))

    def test_greatest_counts_by_the_definition(self):
        for plan in small_plans() + like_plans():
            table = Table(plan)
            for event in plan.events():
                self.assertEqual(table.most(event), greatest_count(plan, event, FAR), (str(plan), event))

    def test_no_greatest_lead_and_no_greatest_count(self):
        table = Table(Plan(["a", "b"], [("a", "b", 4)]))
        self.assertEqual([table.lead("a", "b"), table.lead("b", "a"), table.most("a"), table.most("b")],
                         [4, None, None, None])
        self.assertIs(table.lead("b", "a"), None)
        self.assertIs(table.most("a"), None)

    def test_limits_bar_leads(self):
        table = Table(Plan(["a", "b", "c"], [("b", "c", 2)], limits={"b": 3}))
        self.assertEqual([table.lead("a", "b"), table.lead("a", "c"), table.lead("b", "c"), table.lead("c", "a")],
                         [3, 5, 2, None])
        self.assertEqual([table.most("a"), table.most("b"), table.most("c")], [None, 3, 5])

    def test_the_lead_of_an_event_over_itself(self):
        for plan in [Plan(["a"]), Plan(["a"], [("a", "a", 3)]), Plan(["a", "b"], limits={"a": 0, "b": 0})]:
            self.assertEqual(Table(plan).lead("a", "a"), 0)

    def test_events_that_never_come(self):
        table = Table(Plan(["a", "b"], limits={"a": 0, "b": 0}))
        self.assertEqual([table.lead("a", "b"), table.lead("b", "a"), table.most("a")], [0, 0, 0])
        table = Table(Plan(["a", "b"], [("a", "b", 0)], limits={"a": 0}))
        self.assertEqual([table.most("b"), table.lead("b", "a")], [0, 0])

    def test_great_numbers(self):
        great = 10 ** 30 - 1
        ring = [(one, other, great) for one, other in zip("abcdefgh", "bcdefgha")]
        table = Table(Plan(list("abcdefgh"), ring, limits={"c": great}))
        self.assertEqual([table.lead("a", "h"), table.lead("h", "a"), table.most("b"), table.most("d")],
                         [6 * great, great, 8 * great, 2 * great])

    def test_arguments_by_name(self):
        table = Table(plan=example())
        self.assertEqual([table.lead(later="load", earlier="sell"), table.most(event="sell")], [3, 5])

    def test_a_plan_that_is_not_one(self):
        for value in [None, True, 0, "a", "events a", [], {}, ["a"], [Plan(["a"])], Table(Plan(["a"]))]:
            self.assert_keeps(InvalidPlan, "value", value, Table, value)

    def test_unknown_events(self):
        table = Table(example())
        for value in no_names() + ["a", "loads"]:
            self.assert_keeps(UnknownEvent, "name", value, table.lead, value, 7)
            self.assert_keeps(UnknownEvent, "name", value, table.lead, "load", value)
            self.assert_keeps(UnknownEvent, "name", value, table.most, value)


class TestEquality(unittest.TestCase):
    def test_the_same_moments(self):
        one = Plan(["a", "b"], [("a", "b", 0), ("b", "a", 2)], limits={"a": 4})
        others = [
            Plan(["a", "b"], [("b", "a", 2), ("a", "b", 0)], limits={"a": 4}),
            Plan(["a", "b"], [("a", "b", 0), ("b", "a", 2), ("a", "b", 5), ("a", "a", 3)], limits={"a": 4, "b": 4}),
            Plan(["a", "b"], [("a", "b", 0), ("b", "a", 2)], limits={"a": 4, "b": 9}),
        ]
        for other in others:
            self.assertTrue(Table(one) == Table(other))
            self.assertFalse(Table(one) != Table(other))

    def test_other_moments_or_events(self):
        one = Plan(["a", "b"], [("a", "b", 0)], limits={"a": 4})
        others = [
            one.limited("a", 5), one.limited("a", None), one.untied(0), one.tied("b", "a", 3), one.limited("b", 3),
            Plan(["b", "a"], [("a", "b", 0)], limits={"a": 4}), Plan(["a", "c"], [("a", "c", 0)], limits={"a": 4}),
            Plan(["a"], limits={"a": 4}), Plan(["a", "b", "c"], [("a", "b", 0)], limits={"a": 4}),
        ]
        for other in others:
            self.assertFalse(Table(one) == Table(other), str(other))
            self.assertTrue(Table(one) != Table(other))

    def test_by_the_definition(self):
        plans = like_plans()[:20]
        for one, other in itertools.product(plans, repeat=2):
            same = all_moments(one, 5) == all_moments(other, 5)
            self.assertIs(Table(one) == Table(other), same, (str(one), str(other)))

    def test_other_values(self):
        plan = example()
        for value in [None, True, 0, "", [], {}, plan, str(plan), [Table(plan)]]:
            self.assertFalse(Table(plan) == value)
            self.assertTrue(Table(plan) != value)
        self.assertIsInstance(repr(Table(plan)), str)


class TestRows(RaisingCase):
    def row_ends(self, plan, row):
        """Return where a row of a plan begins and ends, None for nothing, and what it adds."""
        self.assertIsInstance(row, tuple)
        kind, which = row
        if kind == "tie":
            self.assertIsInstance(which, int)
            self.assertIn(which, range(len(plan.ties())))
            return plan.ties()[which]
        self.assertIn(kind, ["limit", "none"])
        return (None, which, plan.limits()[which]) if kind == "limit" else (which, None, 0)

    def assert_rows(self, plan, rows, first, last, wanted):
        """The rows lead from the first place to the last one, and what they add is the lead that is wanted."""
        if wanted is None:
            self.assertIs(rows, None)
            return
        self.assertIsInstance(rows, list)
        at, total = first, 0
        for row in rows:
            begin, end, added = self.row_ends(plan, row)
            self.assertEqual(begin, at)
            at, total = end, total + added
        self.assertEqual([at, total], [last, wanted])

    def test_chains_show_the_leads(self):
        for plan in small_plans() + like_plans() + far_plans():
            table = Table(plan)
            for earlier, later in pairs_of(plan):
                self.assert_rows(plan, table.chain(earlier, later), earlier, later, table.lead(earlier, later))
            for event in plan.events():
                self.assert_rows(plan, table.held(event), None, event, table.most(event))

    def test_a_chain_by_nothing(self):
        table = Table(Plan(["a", "b"], [("a", "b", 9)], limits={"b": 3}))
        self.assertEqual(table.chain("a", "b"), [("none", "a"), ("limit", "b")])
        self.assertEqual(table.held("b"), [("limit", "b")])
        self.assertEqual([table.chain("b", "a"), table.held("a")], [None, None])

    def test_the_lesser_of_two_ties(self):
        table = Table(Plan(["a", "b"], [("a", "b", 9), ("a", "b", 2), ("a", "b", 4)]))
        self.assertEqual(table.chain("a", "b"), [("tie", 1)])

    def test_a_limit_that_ties_undercut(self):
        table = Table(Plan(["a", "b"], [("a", "b", 1)], limits={"a": 2, "b": 7}))
        self.assertEqual([table.held("b"), table.most("b")], [[("limit", "a"), ("tie", 0)], 3])

    def test_equal_plans_have_equal_chains(self):
        ties = [("b", "a", 0), ("c", "a", 0)]
        one = Plan(["a", "b", "c"], ties, limits={"b": 2, "c": 2})
        other = Plan(["a", "b", "c"], ties, limits={"c": 2, "b": 2})
        self.assertEqual(Table(one).held("a"), Table(other).held("a"))

    def test_new_lists_are_returned(self):
        table = Table(example())
        table.chain("load", "sell").clear()
        table.held("load").append(1)
        self.assertEqual(table.chain("load", "sell"), [("tie", 0), ("tie", 1)])
        self.assertEqual(table.held("load"), [("limit", "sell"), ("tie", 2)])

    def test_unknown_events(self):
        table = Table(example())
        for value in no_names() + ["a", "loads"]:
            self.assert_keeps(UnknownEvent, "name", value, table.chain, value, 7)
            self.assert_keeps(UnknownEvent, "name", value, table.chain, "load", value)
            self.assert_keeps(UnknownEvent, "name", value, table.held, value)
        self.assertEqual(table.chain(later="test", earlier="load"), [("tie", 0)])
        self.assertEqual(table.held(event="sell"), [("limit", "sell")])


class TestLeastMoments(RaisingCase):
    def test_example(self):
        table = Table(example())
        self.assertEqual([table.least("sell", 3), table.least("sell", 6)], [told(2, 2, 3), None])

    def test_least_by_the_definition(self):
        for plan in small_plans() + like_plans():
            table, moments = Table(plan), all_moments(plan, FAR)
            for event, count in itertools.product(plan.events(), range(5)):
                found = table.least(event, count)
                others = [counts for counts in moments if counts[event] >= count]
                if found is None:
                    self.assertEqual([counts for counts in moments if counts[event] == count], [])
                else:
                    self.assertEqual(found[event], count)
                    self.assertTrue(is_least(found, others), (str(plan), event, count))

    def test_shown_by_the_definition(self):
        for plan in small_plans() + like_plans():
            table, moments = Table(plan), all_moments(plan, FAR)
            for earlier, later in pairs_of(plan):
                lead, found = table.lead(earlier, later), table.shown(earlier, later)
                if lead is None:
                    self.assertIs(found, None)
                else:
                    others = [counts for counts in moments if counts[later] - counts[earlier] == lead]
                    self.assertTrue(is_least(found, others), (str(plan), earlier, later))

    def test_great_numbers(self):
        for plan in far_plans():
            table = Table(plan)
            for earlier, later in pairs_of(plan):
                found = table.shown(earlier, later)
                if found is not None:
                    self.assertTrue(keeps(plan, found))
                    self.assertEqual(found[later] - found[earlier], table.lead(earlier, later))
            for event in plan.events():
                most = table.most(event)
                count = 10 ** 30 if most is None else most
                found = table.least(event, count)
                self.assertTrue(keeps(plan, found))
                self.assertEqual([found[event], list(found)], [count, plan.events()])
                for other in plan.events():
                    fewer = {**found, other: found[other] - 1}
                    self.assertTrue(other == event or found[other] == 0 or not keeps(plan, fewer))
                if most is not None:
                    self.assertIs(table.least(event, most + 1), None)

    def test_nothing_has_come(self):
        table = Table(example())
        self.assertEqual([table.least("test", 0), table.shown("load", "load")], [told(0, 0, 0), told(0, 0, 0)])

    def test_new_dicts_are_returned(self):
        table = Table(example())
        table.least("sell", 3)["load"] = 9
        table.shown("load", "sell").clear()
        self.assertEqual([table.least("sell", 3), table.shown("load", "sell")], [told(2, 2, 3), told(0, 0, 1)])

    def test_wrong_arguments(self):
        table = Table(example())
        for value in no_names() + ["a", "loads"]:
            self.assert_keeps(UnknownEvent, "name", value, table.least, value, -1)
            self.assert_keeps(UnknownEvent, "name", value, table.shown, value, 7)
            self.assert_keeps(UnknownEvent, "name", value, table.shown, "load", value)
        for value in no_counts():
            self.assert_keeps(InvalidInteger, "value", value, table.least, "sell", value)
        self.assertEqual(table.least(count=1, event="load"), told(1, 0, 0))
        self.assertEqual(table.shown(later="load", earlier="sell"), told(3, 0, 0))


if __name__ == "__main__":
    unittest.main()

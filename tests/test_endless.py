"""Promises [111], [112] and [113]: what goes on for ever."""

import itertools
import random
import unittest

from bound_cases import no_plans
from by_hand import all_moments, far_plans, greatest_count, greatest_lead, level_of, like_plans, small_plans
from odd_values import no_names, odd_integers, odd_texts, odd_values
from pileups.endless import closed, endless, groups, is_bounded, sums
from pileups.errors import InvalidNames, InvalidPlan, InvalidStock, UnknownEvent
from pileups.flows import is_pump, pumps
from pileups.plans import Plan
from pileups.stocks import Stock, greatest, least
from pileups.tables import Table
from raising import RaisingCase

# More than any finite lead or count of the small plans.
FAR = 7


def example():
    return Plan(["load", "sell", "note", "stop"], [("load", "sell", 0), ("sell", "load", 3), ("load", "note", 0)],
                limits={"stop": 1})


class TestEndless(RaisingCase):
    def test_example(self):
        plan = example()
        self.assertEqual([endless(plan), groups(plan), closed(plan, ["note"]), closed(plan, ["stop"])],
                         [["load", "sell", "note"], [["load", "sell"], ["note"], ["stop"]], ["load", "sell", "note"],
                          ["stop"]])

    def test_by_the_definition(self):
        for plan in small_plans() + like_plans():
            wanted = [event for event in plan.events() if greatest_count(plan, event, FAR) is None]
            self.assertEqual(endless(plan), wanted, str(plan))
            keep = {pair: greatest_lead(plan, *pair, FAR) is not None
                    for pair in itertools.product(plan.events(), repeat=2)}
            rows = []
            for event in plan.events():
                row = [other for other in plan.events() if keep[event, other] and keep[other, event]]
                if row not in rows:
                    rows.append(row)
            self.assertEqual(groups(plan), rows, str(plan))

    def test_what_it_says_of_closed_events_and_tables(self):
        for plan in small_plans() + like_plans() + far_plans():
            table, limits = Table(plan), plan.limits()
            free = endless(plan)
            self.assertEqual(free, [event for event in plan.events() if table.most(event) is None])
            self.assertEqual(free, [event for event in plan.events()
                                    if not any(name in limits for name in closed(plan, [event]))])
            told = groups(plan)
            self.assertEqual(sorted(sum(told, [])), sorted(plan.events()))
            rest = [event for event in plan.events() if event not in free]
            if rest:
                self.assertIn(rest, told)
            self.assertEqual([row[0] for row in told], [event for event in plan.events() if event in
                                                        [row[0] for row in told]])

    def test_a_chain_of_ties_that_stand_in_any_order(self):
        events = list("hgfedcba")
        for ties in [list(zip(events, events[1:], [2] * 7)), list(zip(events, events[1:], [2] * 7))[::-1]]:
            plan = Plan(events, ties)
            self.assertEqual([closed(plan, ["a"]), closed(plan, ["f", "h"])], [events, ["h", "g", "f"]])
            self.assertEqual([endless(plan), groups(plan)], [events, [[event] for event in events]])
            self.assertEqual(endless(plan.limited("e", 0)), ["h", "g", "f"])
            self.assertEqual(groups(plan.tied("c", "g", 9)), [["h"], ["g", "f", "e", "d", "c"], ["b"], ["a"]])

    def test_closed_by_the_definition(self):
        for plan in small_plans() + like_plans() + far_plans():
            for many in range(3):
                for events in itertools.permutations(plan.events(), many):
                    there, before = set(events), None
                    while there != before:
                        before = set(there)
                        there.update(earlier for earlier, later, lag in plan.ties() if later in before)
                    self.assertEqual(closed(plan, list(events)), [event for event in plan.events() if event in there])

    def test_events_may_stand_twice(self):
        plan = example()
        self.assertEqual([closed(plan, ["sell", "sell"]), closed(plan, ()), closed(events=("stop",), plan=plan)],
                         [["load", "sell"], [], ["stop"]])

    def test_new_lists_are_returned(self):
        plan, events = example(), ["note"]
        endless(plan).clear()
        groups(plan)[0].clear()
        groups(plan).clear()
        closed(plan, events).append("x")
        self.assertEqual([endless(plan=plan), groups(plan=plan), closed(plan, events), events],
                         [["load", "sell", "note"], [["load", "sell"], ["note"], ["stop"]], ["load", "sell", "note"],
                          ["note"]])

    def test_wrong_arguments(self):
        for value in no_plans():
            self.assert_keeps(InvalidPlan, "value", value, endless, value)
            self.assert_keeps(InvalidPlan, "value", value, groups, value)
            self.assert_keeps(InvalidPlan, "value", value, closed, value, 7)
        for value in odd_values() + odd_integers() + odd_texts() + ["note", {"note": 1}]:
            if not isinstance(value, (list, tuple)):
                self.assert_keeps(InvalidNames, "value", value, closed, example(), value)
        for value in no_names() + ["x"]:
            self.assert_keeps(UnknownEvent, "name", value, closed, example(), ["note", value, "y"])


class TestSums(RaisingCase):
    def test_example(self):
        plan, stock = example(), Stock(0, {"load": 1, "sell": -1, "stop": 7})
        self.assertEqual([sums(plan, stock), is_bounded(plan, stock), sums(plan, Stock(0, {"note": 2}))],
                         [[0, 0], True, [0, 2]])

    def test_by_the_definition(self):
        rng, kinds = random.Random(113), []
        for plan in small_plans() + like_plans():
            free = endless(plan)
            rows = [row for row in groups(plan) if row[0] in free]
            for turn in range(8):
                stock = Stock(rng.randint(-9, 9), {event: rng.randint(-1, 1) for event in plan.events()})
                wanted = [sum(stock.amount(event) for event in row) for row in rows]
                self.assertEqual(sums(plan, stock), wanted)
                both = greatest(plan, stock)[0] is not None and least(plan, stock)[0] is not None
                self.assertIs(is_bounded(plan, stock), both)
                self.assertIs(both, not any(wanted))
                kinds.append(both)
                near, far = [[level_of(stock, counts) for counts in all_moments(plan, most)] for most in [4, 7]]
                if len(plan) < 3 and not both:
                    self.assertTrue(max(far) > max(near) or min(far) < min(near))
        self.assertGreater(min(kinds.count(True), kinds.count(False)), 30)

    def test_pumps_and_bounds_agree(self):
        rng = random.Random(114)
        for plan in like_plans() + far_plans():
            for turn in range(3):
                stock = Stock(0, {event: rng.randint(-1, 1) for event in plan.events()})
                rising = any(is_pump(plan, stock, row) or is_pump(plan, -stock, row) for row in pumps(plan))
                self.assertIs(is_bounded(plan, stock), not rising)

    def test_great_numbers(self):
        plan, great = example(), 10 ** 30 - 1
        self.assertEqual(sums(plan, Stock(1, {"load": great, "sell": great, "note": -great})), [2 * great, -great])
        self.assertIs(is_bounded(plan, Stock(1, {"load": great, "sell": -great, "stop": great})), True)
        self.assertEqual(sums(stock=Stock(5), plan=Plan(["a"], limits={"a": 1})), [])
        self.assertIs(is_bounded(stock=Stock(5, {"a": 1}), plan=Plan(["a"], limits={"a": 1})), True)

    def test_wrong_arguments(self):
        for call in [sums, is_bounded]:
            for value in no_plans():
                self.assert_keeps(InvalidPlan, "value", value, call, value, 7)
            for value in no_names() + [Table(Plan(["a"])), example()]:
                self.assert_keeps(InvalidStock, "value", value, call, example(), value)
            self.assert_raises(UnknownEvent, "name", "b", call, example(), Stock(1, {"x": 1, "b": 1, "a": 0}))


if __name__ == "__main__":
    unittest.main()

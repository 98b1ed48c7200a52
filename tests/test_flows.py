"""Promises [71], [72] and [73]: flows and pumps."""

import itertools
import random
import unittest

from by_hand import far_plans, like_plans, repeatable, small_plans
from odd_values import no_counts, no_integers, no_names, odd_integers, odd_texts, odd_values
from pileups.errors import InvalidPlan, InvalidStock, UnknownEvent
from pileups.flows import flow, is_flow, is_pump, pumps
from pileups.plans import Plan
from pileups.stocks import Stock, greatest
from pileups.tables import Table
from raising import RaisingCase

GREAT = 10 ** 30 - 1


def example():
    return Plan(["load", "sell"], [("load", "sell", 0), ("sell", "load", 3)], limits={"sell": 5})


def stock_of(start, **amounts):
    return Stock(start, amounts)


def is_right(plan, stock, bound, value):
    """Return True if a value of the right form is a flow, told in the words of the definition."""
    ties, limits = value
    for event in plan.events():
        allowed = limits.get(event, 0)
        for (earlier, later, lag), number in zip(plan.ties(), ties):
            allowed += number * ((later == event) - (earlier == event))
        if stock.amount(event) > allowed:
            return False
    lags = sum(lag * number for (earlier, later, lag), number in zip(plan.ties(), ties))
    return bound == stock.start + lags + sum(plan.limits()[event] * limits[event] for event in limits)


def some_stocks(rng, plan, many, most):
    events = plan.events()
    return [Stock(rng.randint(-most, most), {event: rng.randint(-most, most) for event in events if rng.random() < 0.8})
            for row in range(many)]


def no_plans():
    return [value for value in no_names() if not isinstance(value, Plan)] + [Stock(), "events a"]


class TestFlow(RaisingCase):
    def test_example(self):
        plan, stock = example(), Stock(10, {"load": 2, "sell": -1})
        found = [greatest(plan, stock)[0], is_flow(plan, stock, 21, ([0, 2], {"sell": 1})),
                 is_flow(plan, stock, 21, ([0, 2], {"sell": 2})), pumps(plan)]
        self.assertEqual(found, [21, True, False, []])
        self.assertEqual(flow(plan, stock), ([0, 2], {"sell": 1}))

    def assert_flow(self, plan, stock):
        """The flow bars each level above the greatest one, or there is no greatest one."""
        found, bound = flow(plan, stock), greatest(plan, stock)[0]
        if bound is None:
            self.assertIs(found, None)
            return
        self.assertIsInstance(found, tuple)
        ties, limits = found
        self.assertIsInstance(ties, list)
        self.assertIsInstance(limits, dict)
        self.assertEqual([len(ties), sorted(limits)], [len(plan.ties()), sorted(plan.limits())])
        for number in [*ties, *limits.values()]:
            self.assertIsInstance(number, int)
            self.assertGreaterEqual(number, 0)
        self.assertTrue(is_right(plan, stock, bound, found), (str(plan), str(stock)))
        self.assertIs(is_flow(plan, stock, bound, found), True)
        self.assertIs(is_flow(plan, stock, bound - 1, found), False)
        self.assertIs(is_flow(plan, stock, bound + 1, found), False)

    def test_flows_of_small_plans(self):
        rng = random.Random(2)
        for plan in small_plans() + like_plans():
            for stock in some_stocks(rng, plan, 15, 3):
                self.assert_flow(plan, stock)

    def test_flows_of_far_plans(self):
        rng = random.Random(4)
        for plan in far_plans():
            for stock in some_stocks(rng, plan, 3, 4) + some_stocks(rng, plan, 3, GREAT):
                self.assert_flow(plan, stock)

    def test_flows_of_plans_in_which_all_is_limited(self):
        rng = random.Random(6)
        for plan in far_plans():
            for event in plan.events():
                plan = plan.limited(event, rng.randint(0, GREAT))
            for stock in some_stocks(rng, plan, 3, GREAT):
                self.assert_flow(plan, stock)

    def test_nothing_flows(self):
        plan = Plan(["a", "b"], [("a", "b", 4), ("a", "a", 1)], limits={"b": 3})
        self.assertEqual(flow(plan, stock_of(5)), ([0, 0], {"b": 0}))
        self.assertEqual(flow(plan, stock_of(5, a=-1, b=-2)), ([0, 0], {"b": 0}))
        self.assertEqual(flow(Plan(["a"]), stock_of(0)), ([], {}))

    def test_no_flow(self):
        self.assertIs(flow(Plan(["a", "b"], limits={"b": 3}), stock_of(0, a=1)), None)

    def test_equal_arguments_have_equal_flows(self):
        ties = [("a", "c", 1), ("b", "c", 1), ("c", "a", 1), ("c", "b", 1)]
        one = Plan(["a", "b", "c"], ties, limits={"a": 2, "b": 2, "c": 3})
        other = Plan(["a", "b", "c"], ties, limits={"c": 3, "b": 2, "a": 2})
        for amounts in itertools.product([-2, 1, 3], repeat=3):
            named = dict(zip("abc", amounts))
            turned = {event: named[event] for event in "cba"}
            self.assertEqual(flow(one, Stock(0, named)), flow(other, Stock(0, turned)))

    def test_new_results_are_returned(self):
        plan, stock = example(), stock_of(10, load=2, sell=-1)
        flow(plan, stock)[0].clear()
        flow(plan, stock)[1]["sell"] = 9
        self.assertEqual(flow(stock=stock, plan=plan), ([0, 2], {"sell": 1}))


class TestIsFlow(RaisingCase):
    def test_numbers_by_the_definition(self):
        plan = Plan(["a", "b"], [("a", "b", 1), ("b", "a", 2), ("a", "a", 1)], limits={"b": 2})
        for start, amounts in itertools.product([0, 3], itertools.product([-1, 1, 2], repeat=2)):
            stock = Stock(start, dict(zip("ab", amounts)))
            for first, second, third, limit in itertools.product(range(4), range(4), range(2), range(4)):
                value = ([first, second, third], {"b": limit})
                bound = start + first + 2 * second + third + 2 * limit
                self.assertIs(is_flow(plan, stock, bound, value), is_right(plan, stock, bound, value))
                self.assertIs(is_flow(plan, stock, bound + 1, value), False)

    def test_a_flow_with_a_higher_bound(self):
        plan, stock = example(), stock_of(10, load=2, sell=-1)
        self.assertIs(is_flow(plan, stock, 26, ([0, 2], {"sell": 2})), True)
        self.assertIs(is_flow(plan, stock, 24, ([3, 3], {"sell": 1})), False)
        self.assertIs(is_flow(plan, stock, 24, ([1, 3], {"sell": 1})), True)

    def test_great_numbers(self):
        plan = Plan(["a"], limits={"a": GREAT})
        bound, stock = 1 + GREAT * GREAT, stock_of(1, a=GREAT)
        self.assertIs(is_flow(plan, stock, bound, ([], {"a": GREAT})), True)
        self.assertIs(is_flow(plan, stock, bound + 1, ([], {"a": GREAT})), False)
        self.assertIs(is_flow(plan, stock, bound - GREAT, ([], {"a": GREAT - 1})), False)
        self.assertIs(is_flow(plan, stock, bound * 10 ** 60, ([], {"a": GREAT})), False)

    def test_a_list_may_be_a_tuple_and_the_tuple_no_list(self):
        plan, stock = example(), stock_of(10, load=2, sell=-1)
        self.assertIs(is_flow(plan, stock, 21, ((0, 2), {"sell": 1})), True)
        self.assertIs(is_flow(plan, stock, 21, [[0, 2], {"sell": 1}]), False)
        self.assertIs(is_flow(value=([0, 2], {"sell": 1}), bound=21, stock=stock, plan=plan), True)

    def test_what_has_not_the_form_of_a_flow(self):
        plan, stock = example(), stock_of(10, load=2, sell=-1)
        right = {"sell": 1}
        wrong = [([0, 2],), ([0, 2], right, 1), (), ([0], right), ([0, 2, 0], right), ({0: 0, 1: 2}, right),
                 ("02", right), ([0, 2], [1]), ([0, 2], [("sell", 1)]), ([0, 2], {}), ([0, 2], None), (None, right),
                 ([0, 2], {"sell": 1, "load": 0}), ([0, 2], {"load": 1}), ([0, 2], {0: 1}), (right, [0, 2]),
                 ([0, 2], {"sell": 1, 0: 0}), ([0, [2]], right), ("ab", right)]
        wrong.extend([([value, 2], right) for value in no_counts()])
        wrong.extend([([0, value], right) for value in no_counts()])
        wrong.extend([([0, 2], {"sell": value}) for value in no_counts()])
        wrong.extend([(value, right) for value in odd_values() + odd_integers() + odd_texts()])
        wrong.extend([([0, 2], value) for value in odd_values() + odd_integers() + odd_texts()])
        for value in wrong + odd_values() + odd_integers() + odd_texts() + [Stock(), Table(plan)]:
            self.assertIs(is_flow(plan, stock, 21, value), False)

    def test_any_value_as_a_bound(self):
        plan, stock = example(), stock_of(10, load=2, sell=-1)
        for value in no_integers() + ["21", [21], 20, 22, -21]:
            self.assertIs(is_flow(plan, stock, value, ([0, 2], {"sell": 1})), False)
        self.assertIs(is_flow(Plan(["a"]), stock_of(1), True, ([], {})), False)
        self.assertIs(is_flow(Plan(["a"]), stock_of(0), False, ([], {})), False)
        self.assertIs(is_flow(Plan(["a"]), stock_of(1), 1, ([], {})), True)

    def test_arguments_are_not_modified(self):
        ties, limits = [0, 2], {"sell": 1}
        is_flow(example(), stock_of(10, load=2, sell=-1), 21, (ties, limits))
        self.assertEqual([ties, limits], [[0, 2], {"sell": 1}])

    def test_order_of_what_is_wrong(self):
        other = Stock(1, {"sell": 1, "x": 1, "b": 1})
        calls = [flow, lambda *given: is_flow(*given, 7, 8), lambda *given: is_pump(*given, 7)]
        for call in calls:
            for value in no_plans():
                self.assert_keeps(InvalidPlan, "value", value, call, value, 7)
            for value in no_names() + [Table(Plan(["a"])), "10 +2 load"]:
                self.assert_keeps(InvalidStock, "value", value, call, example(), value)
            self.assert_raises(UnknownEvent, "name", "b", call, example(), other)


class TestPumps(RaisingCase):
    def test_example(self):
        plan, stock = example().limited("sell", None), stock_of(10, load=2, sell=-1)
        self.assertEqual([pumps(plan), is_pump(plan, stock, ["sell", "load"])], [[["load", "sell"]], True])

    def wanted_pumps(self, plan):
        rows = []
        for many in range(1, len(plan) + 1):
            rows.extend([list(row) for row in itertools.combinations(plan.events(), many)])
        return [row for row in rows if repeatable(plan, row)]

    def test_pumps_by_the_definition(self):
        for plan in small_plans() + like_plans() + far_plans():
            self.assertEqual(pumps(plan), self.wanted_pumps(plan), str(plan))

    def test_pumps_without_ties(self):
        plan = Plan(list("hbcdefga"))
        self.assertEqual([len(pumps(plan)), pumps(plan)], [255, self.wanted_pumps(plan)])
        self.assertEqual(pumps(plan)[8:11], [["h", "b"], ["h", "c"], ["h", "d"]])
        plan = Plan(["c", "a", "b"], [("c", "a", 5), ("a", "a", 1)])
        self.assertEqual(pumps(plan), [["c"], ["b"], ["c", "a"], ["c", "b"], ["c", "a", "b"]])

    def test_a_limit_ends_what_waits_for_it(self):
        plan = Plan(["a", "b", "c"], [("a", "b", 9), ("c", "a", 9)], limits={"c": 0})
        self.assertEqual(pumps(plan), [])
        self.assertEqual(pumps(plan.untied(1)), [["a"], ["a", "b"]])

    def test_is_pump_by_the_definition(self):
        rng = random.Random(8)
        for plan in small_plans() + like_plans()[:20]:
            right = [sorted(row) for row in self.wanted_pumps(plan)]
            for stock in some_stocks(rng, plan, 5, 2):
                for many in range(len(plan) + 1):
                    for row in itertools.permutations(plan.events(), many):
                        wanted = sorted(row) in right and sum(stock.amount(event) for event in row) > 0
                        self.assertIs(is_pump(plan, stock, list(row)), wanted)
                        self.assertIs(is_pump(plan, stock, row), wanted)

    def test_what_is_no_pump(self):
        plan, stock = example().limited("sell", None), stock_of(10, load=2, sell=-1)
        wrong = [["load"], ["sell"], [], (), ["load", "sell", "load"], ["load", "load"], ["load", "sell", "x"], "load",
                 "loadsell", {"load": 1, "sell": 1}, ["load", ["sell"]], [["load", "sell"]], ["load", "sell", None],
                 ["load", "sell", 0], ["load", "sell", plan], [plan, stock], [{}], ["load sell"]]
        for value in wrong + no_names() + [stock, Table(plan)]:
            self.assertIs(is_pump(plan, stock, value), False)
        self.assertIs(is_pump(example(), stock, ["load", "sell"]), False)
        self.assertIs(is_pump(plan, -stock, ["load", "sell"]), False)
        self.assertIs(is_pump(plan, stock_of(10, load=1, sell=-1), ["load", "sell"]), False)
        self.assertIs(is_pump(value=("sell", "load"), stock=stock, plan=plan), True)

    def test_new_lists_are_returned(self):
        plan, names = example().limited("sell", None), ["sell", "load"]
        pumps(plan)[0].clear()
        pumps(plan).clear()
        is_pump(plan, stock_of(0, load=1), names)
        self.assertEqual([pumps(plan=plan), names], [[["load", "sell"]], ["sell", "load"]])

    def test_wrong_plans(self):
        for value in no_plans():
            self.assert_keeps(InvalidPlan, "value", value, pumps, value)


if __name__ == "__main__":
    unittest.main()

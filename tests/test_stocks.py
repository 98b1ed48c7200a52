"""Promises [61], [62], [63] and [64]: stocks, their texts, and their greatest and least levels."""

import itertools
import random
import unittest

from by_hand import all_moments, far_plans, keeps, level_of, like_plans, repeatable, small_plans
from odd_values import no_integers, no_names, odd_integers, odd_texts, odd_values
from pileups.errors import Barred, InvalidAmounts, InvalidCounts, InvalidInteger, InvalidPlan, InvalidRun
from pileups.errors import InvalidStock, InvalidText, UnknownEvent
from pileups.plans import Plan
from pileups.stocks import Stock, greatest, least, level, levels, read_stock
from pileups.tables import Table
from raising import RaisingCase

GREAT = 10 ** 30 - 1


def example():
    return Plan(["load", "sell"], [("load", "sell", 0), ("sell", "load", 3)])


def told(load, sell):
    return {"load": load, "sell": sell}


def no_stocks():
    return no_names() + [Table(Plan(["a"])), "0", "10 +2 load", 0]


def no_plans():
    return [value for value in no_names() if not isinstance(value, Plan)] + [Stock(), "events a"]


class TestStock(RaisingCase):
    def test_example(self):
        stock = Stock(10, {"load": 2, "sell": -1})
        self.assertEqual([str(stock), str(-stock), stock.start], ["10 +2 load -1 sell", "-10 -2 load +1 sell", 10])

    def test_start_and_amounts(self):
        stock = Stock(-3, {"load": 2, "sell": -1, "note": 0})
        self.assertEqual([stock.start, stock.amounts()], [-3, {"load": 2, "sell": -1}])
        self.assertEqual([stock.amount(event) for event in ["load", "sell", "note", "x"]], [2, -1, 0, 0])
        self.assertEqual([Stock().start, Stock().amounts(), Stock(7).amounts()], [0, {}, {}])
        self.assertEqual([Stock(amounts={"a": 1}, start=4).start, Stock(4, None).amounts()], [4, {}])
        self.assertEqual(stock.amount(event="load"), 2)

    def test_great_numbers(self):
        stock = Stock(-GREAT, {"a": GREAT, "abcdefgh": -GREAT})
        self.assertEqual([stock.start, stock.amount("a"), stock.amount("abcdefgh")], [-GREAT, GREAT, -GREAT])
        self.assertEqual((stock + stock).amount("a"), 2 * GREAT)
        self.assertEqual(Stock(10 ** 80).start, 10 ** 80)

    def test_the_amount_of_what_is_no_event(self):
        stock = Stock(1, {"a": 1})
        for value in no_names():
            self.assertEqual(stock.amount(value), 0)

    def test_what_is_handed_in_and_out_is_copied(self):
        amounts = {"load": 2, "sell": 0}
        stock = Stock(1, amounts)
        self.assertEqual(amounts, {"load": 2, "sell": 0})
        amounts["load"] = 9
        stock.amounts()["load"] = 8
        stock.amounts().clear()
        self.assertEqual([stock.amounts(), stock == Stock(1, {"load": 2})], [{"load": 2}, True])

    def test_wrong_starts(self):
        for value in no_integers():
            self.assert_keeps(InvalidInteger, "value", value, Stock, value, 7)

    def test_wrong_amounts(self):
        wrong = [value for value in odd_values() if value is not None and value not in [{}, {"a": 0}]]
        wrong.extend([0, 1, "a", "", Stock(), [("a", 1)], {"a": 1, "b": True}, {"A": 1}, {1: 1}, {"a": 1, "": 0}])
        wrong.extend([{"a": value} for value in no_integers()] + [{"a": 1, "b": "1"}, {"abcdefghi": 1}, {0: 0}])
        wrong.extend([{value: 1} for value in odd_texts() + odd_integers()])
        for value in wrong:
            self.assert_keeps(InvalidAmounts, "value", value, Stock, 1, value)

    def test_equality(self):
        stock = Stock(1, {"a": 2, "b": -1})
        for other in [Stock(1, {"b": -1, "a": 2}), Stock(1, {"a": 2, "b": -1, "c": 0}), -(-stock)]:
            self.assertTrue(stock == other)
            self.assertFalse(stock != other)
        others = [Stock(2, {"a": 2, "b": -1}), Stock(1, {"a": 2}), Stock(1, {"a": 2, "c": -1}), Stock(1),
                  Stock(1, {"a": 2, "b": 1}), None, True, 1, "1 +2 a -1 b", {"a": 2, "b": -1}, [stock], Plan(["a"])]
        for other in others:
            self.assertFalse(stock == other)
            self.assertTrue(stock != other)
        self.assertFalse(Stock() == 0)
        self.assertFalse(Stock(1) == True)  # noqa: E712
        self.assertIsInstance(repr(stock), str)

    def test_sums_differences_and_opposites(self):
        one, other = Stock(3, {"a": 2, "b": 5}), Stock(-1, {"b": -5, "c": 4})
        self.assertEqual(one + other, Stock(2, {"a": 2, "c": 4}))
        self.assertEqual(one - other, Stock(4, {"a": 2, "b": 10, "c": -4}))
        self.assertEqual(-one, Stock(-3, {"a": -2, "b": -5}))
        self.assertEqual([one - one, (one + other).amounts()], [Stock(), {"a": 2, "c": 4}])
        self.assertEqual([one, other], [Stock(3, {"a": 2, "b": 5}), Stock(-1, {"b": -5, "c": 4})])

    def test_levels_of_sums(self):
        plan, rng = Plan(["a", "b", "c"]), random.Random(3)
        for row in range(50):
            one, other = [Stock(rng.randint(-9, 9), {event: rng.randint(-3, 3) for event in "abc"
                                                    if rng.random() < 0.7}) for place in range(2)]
            counts = {event: rng.randint(0, 9) for event in "abc"}
            first, second = level(plan, one, counts), level(plan, other, counts)
            self.assertEqual(level(plan, one + other, counts), first + second)
            self.assertEqual(level(plan, one - other, counts), first - second)
            self.assertEqual(level(plan, -one, counts), -first)

    def test_a_sum_with_what_is_no_stock(self):
        for value in no_stocks():
            self.assert_keeps(InvalidStock, "value", value, lambda other: Stock(1) + other, value)
            self.assert_keeps(InvalidStock, "value", value, lambda other: Stock(1) - other, value)


class TestText(RaisingCase):
    def test_texts(self):
        self.assertEqual(str(Stock(10, {"sell": -1, "load": 2})), "10 +2 load -1 sell")
        self.assertEqual([str(Stock()), str(Stock(-4)), str(Stock(0, {"a": 0}))], ["0", "-4", "0"])
        self.assertEqual(str(Stock(-4, {"b": 1, "ab": -10, "a": 3, "zz": 0})), "-4 +3 a -10 ab +1 b")
        self.assertEqual(str(Stock(GREAT, {"a": GREAT, "b": -GREAT})), f"{GREAT} +{GREAT} a -{GREAT} b")
        self.assertEqual(str(Stock(0, {"a": 10 ** 30})), "0 +1" + "0" * 30 + " a")

    def test_numbers_that_are_too_long_for_str(self):
        stock = Stock(-(10 ** 5000), {"a": 10 ** 5000, "b": -(10 ** 5000)})
        long = "1" + "0" * 5000
        self.assertEqual(str(stock), f"-{long} +{long} a -{long} b")
        self.assertIsInstance(repr(stock), str)

    def test_texts_are_read(self):
        stocks = [Stock(), Stock(-4), Stock(10, {"sell": -1, "load": 2}), Stock(-GREAT, {"a": GREAT, "b": -GREAT}),
                  Stock(0, {chr(97 + place) * 8: (-1) ** place * GREAT for place in range(26)})]
        for stock in stocks:
            self.assertEqual(read_stock(str(stock)), stock)
            self.assertEqual(str(read_stock(text=str(stock))), str(stock))

    def test_what_is_no_text_of_a_stock(self):
        wrong = [
            "", " ", "a", "+1", "+0", "-0", "01", "1 ", " 1", "1  +1 a", "1 +1  a", "1 +1", "1 a", "1 1 a", "1 + a",
            "1 - a", "1 +0 a", "1 -0 a", "1 +01 a", "1 --1 a", "1 +-1 a", "1 -+1 a", "1 ++1 a", "1 +1 A", "1 +1 a1",
            "1 +1 abcdefghi", "1 +1 b +1 a", "1 +1 a +1 a", "1 +1 a -1 a", "1 +1 a b", "1 +1 a +1", "1 a +1",
            "1 +1 a\n", "\n1", "1\n", "1 +1\na", "1,+1 a", "1; +1 a", "None", "1 +x a", "x +1 a", "1 +1 +1",
            "1" + "0" * 30, "-1" + "0" * 30, "0 +1" + "0" * 30 + " a", "0 -1" + "0" * 30 + " a", "1.0", "1_0",
            "\u0661", "1 +\u0661 a", "1 +1 \u0430", "events a", "+1 a", "1 +1 a 2", "1 +1 a +0 b", "1 -1 a -",
            "1 \u22121 a", "1 +1 a" * 600,
        ]
        for value in wrong + odd_values() + [Stock(), 0, 1, ["1"], ("1", "+1", "a")]:
            self.assert_keeps(InvalidText, "value", value, read_stock, value)


class TestLevels(RaisingCase):
    def test_example(self):
        stock = Stock(10, {"load": 2, "sell": -1})
        self.assertEqual(levels(example(), stock, ["load", "load", "sell"]), [10, 12, 14, 13])

    def test_level_at_any_counts(self):
        stock = Stock(10, {"load": 2, "sell": -1})
        self.assertEqual([level(example(), stock, told(3, 4)), level(example(), stock, told(0, 0))], [12, 10])
        self.assertEqual(level(example(), Stock(1, {"sell": GREAT}), told(5, GREAT)), 1 + GREAT * GREAT)
        self.assertEqual(level(counts=told(0, 9), plan=example(), stock=Stock(4, {"load": 3})), 4)

    def test_levels_along_runs(self):
        stock = Stock(-2, {"sell": 3})
        self.assertEqual(levels(example(), stock, []), [-2])
        self.assertEqual(levels(run=("load", "sell", "load"), stock=stock, plan=example()), [-2, -2, 1, 1])
        plan = Plan(["a", "b"], [("a", "b", 1)])
        for run in itertools.product(["a", "b"], repeat=5):
            counts, wanted = {"a": 0, "b": 0}, [7]
            for event in run:
                counts = {**counts, event: counts[event] + 1}
                wanted.append(level(plan, Stock(7, {"a": 2, "b": -5}), counts))
            places = [place for place in range(1, 6) if run[:place].count("b") > run[:place].count("a") + 1]
            if places:
                self.assert_raises(Barred, "index", places[0] - 1, levels, plan, Stock(), run)
            else:
                self.assertEqual(levels(plan, Stock(7, {"a": 2, "b": -5}), list(run)), wanted)

    def test_new_lists_are_returned(self):
        run = ["load"]
        levels(example(), Stock(1), run).clear()
        self.assertEqual([run, levels(example(), Stock(1), run)], [["load"], [1, 1]])

    def test_need_fit(self):
        self.assertIs(Stock(1, {"load": 2}).need_fit(example()), None)
        self.assertIs(Stock(1, {"x": 0}).need_fit(plan=example()), None)
        self.assert_raises(UnknownEvent, "name", "b", Stock(1, {"sell": 1, "x": 1, "b": 1}).need_fit, example())
        for value in no_plans():
            self.assert_keeps(InvalidPlan, "value", value, Stock(1, {"x": 1}).need_fit, value)

    def test_order_of_what_is_wrong(self):
        other = Stock(1, {"sell": 1, "x": 1, "b": 1})
        calls = [lambda *given: level(*given, 7), lambda *given: levels(*given, 7), greatest, least]
        for call in calls:
            for value in no_plans():
                self.assert_keeps(InvalidPlan, "value", value, call, value, 7)
            for value in no_stocks():
                self.assert_keeps(InvalidStock, "value", value, call, example(), value)
            self.assert_raises(UnknownEvent, "name", "b", call, example(), other)

    def test_wrong_counts(self):
        for value in odd_values() + odd_integers() + odd_texts() + [told(1, True), told(1, -1), {"load": 1}]:
            self.assert_keeps(InvalidCounts, "value", value, level, example(), Stock(1), value)

    def test_wrong_runs(self):
        for value in [None, True, 0, "load", {}, {"load": 1}, ["x"], ["load", 1], [["load"]], example(), [Stock()]]:
            self.assert_keeps(InvalidRun, "value", value, levels, example(), Stock(1), value)
        self.assert_raises(InvalidRun, "value", ["sell", "x"], levels, example(), Stock(1), ["sell", "x"])

    def test_events_that_cannot_come(self):
        self.assert_raises(Barred, "index", 0, levels, example(), Stock(1), ["sell", "load"])
        self.assert_raises(Barred, "index", 2, levels, example(), Stock(1), ["load", "sell", "sell", "load"])
        self.assert_raises(Barred, "index", 3, levels, example(), Stock(1), ("load", "load", "load", "load"))


class TestGreatestAndLeast(RaisingCase):
    def test_example(self):
        plan, stock = example(), Stock(10, {"load": 2, "sell": -1})
        self.assertEqual([greatest(plan, stock), least(plan, stock)[0]], [(None, ["load", "sell"]), 10])
        self.assertEqual(greatest(plan, Stock(0, {"load": 1, "sell": -1}))[0], 3)

    def assert_extreme(self, plan, stock, found, sign, moments):
        """What is found is the extreme level of these moments and of no other one, or a pump."""
        self.assertIsInstance(found, tuple)
        extreme, shown = found
        if extreme is None:
            self.assertIsInstance(shown, list)
            self.assertEqual(shown, [event for event in plan.events() if event in shown])
            self.assertTrue(repeatable(plan, shown))
            self.assertGreater(sign * sum(stock.amount(event) for event in shown), 0)
        else:
            self.assertEqual(sorted(shown), sorted(plan.events()))
            self.assertTrue(keeps(plan, shown))
            self.assertEqual(level_of(stock, shown), extreme)
            for counts in moments:
                self.assertLessEqual(sign * level_of(stock, counts), sign * extreme, (str(plan), str(stock)))

    def test_by_the_definition(self):
        rng = random.Random(5)
        for plan in small_plans() + like_plans():
            moments = all_moments(plan, 6)
            for row in range(12):
                amounts = {event: rng.randint(-3, 3) for event in plan.events()}
                stock = Stock(rng.randint(-5, 5), amounts)
                self.assert_extreme(plan, stock, greatest(plan, stock), 1, moments)
                self.assert_extreme(plan, stock, least(plan, stock), -1, moments)

    def test_no_greatest_level_just_if_there_is_a_pump(self):
        for plan in small_plans() + like_plans()[:20]:
            rows = [[event for event in plan.events() if event in row] for many in range(len(plan))
                    for row in itertools.combinations(plan.events(), many + 1)]
            closed = [row for row in rows if repeatable(plan, row)]
            for amounts in itertools.product([-1, 0, 2], repeat=len(plan)):
                stock = Stock(1, dict(zip(plan.events(), amounts)))
                rises = [sum(stock.amount(event) for event in row) for row in closed]
                self.assertIs(greatest(plan, stock)[0] is None, any(rise > 0 for rise in rises))
                self.assertIs(least(plan, stock)[0] is None, any(rise < 0 for rise in rises))

    def test_stocks_that_do_not_change(self):
        for plan in small_plans():
            self.assertEqual([greatest(plan, Stock(4))[0], least(plan, Stock(-4, {"q": 0}))[0]], [4, -4])

    def test_limits_hold_a_level(self):
        plan = Plan(["a", "b"], [("a", "b", 2)], limits={"a": 5})
        self.assertEqual(greatest(plan, Stock(1, {"a": 1, "b": 2})), (20, {"a": 5, "b": 7}))
        self.assertEqual(least(plan, Stock(1, {"a": 1, "b": -3})), (-15, {"a": 5, "b": 7}))
        self.assertEqual(greatest(Plan(["a"], limits={"a": 0}), Stock(3, {"a": 9})), (3, {"a": 0}))

    def test_great_numbers(self):
        plan = Plan(["a", "b"], [("a", "b", GREAT)], limits={"a": GREAT})
        self.assertEqual(greatest(plan, Stock(GREAT, {"b": GREAT})), (GREAT + 2 * GREAT * GREAT,
                                                                     {"a": GREAT, "b": 2 * GREAT}))
        self.assertEqual(greatest(plan, Stock(0, {"b": 1, "a": -1}))[0], GREAT)

    def test_far_plans(self):
        rng = random.Random(9)
        for plan in far_plans():
            for most in [3, GREAT]:
                stock = Stock(rng.randint(-most, most), {event: rng.randint(-most, most) for event in plan.events()})
                self.assert_extreme(plan, stock, greatest(plan, stock), 1, [])
                self.assert_extreme(plan, stock, least(plan, stock), -1, [])

    def test_equal_arguments_have_equal_answers(self):
        ties = [("a", "c", 1), ("b", "c", 1), ("c", "a", 1), ("c", "b", 1)]
        one = Plan(["a", "b", "c"], ties, limits={"a": 2, "b": 2, "c": 2})
        other = Plan(["a", "b", "c"], ties, limits={"c": 2, "b": 2, "a": 2})
        stocks = [Stock(0, {"a": 1, "b": 1, "c": -2}), Stock(0, {"c": -2, "b": 1, "a": 1})]
        self.assertEqual(greatest(one, stocks[0]), greatest(other, stocks[1]))
        self.assertEqual(least(one, stocks[0]), least(other, stocks[1]))
        free = [plan.limited("a", None).limited("b", None).limited("c", None) for plan in [one, other]]
        self.assertEqual(greatest(free[0], stocks[0] + stocks[0]), greatest(free[1], stocks[1] + stocks[1]))

    def test_new_results_are_returned(self):
        plan, stock = example(), Stock(0, {"load": 1, "sell": -1})
        greatest(plan, stock)[1]["load"] = 9
        greatest(plan, Stock(0, {"load": 1}))[1].clear()
        self.assertEqual(greatest(stock=stock, plan=plan), (3, told(3, 0)))
        self.assertEqual(greatest(plan, Stock(0, {"load": 1})), (None, ["load", "sell"]))
        self.assertEqual(least(stock=-stock, plan=plan)[0], -3)


if __name__ == "__main__":
    unittest.main()

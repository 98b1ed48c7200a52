"""Promises [81], [82], [83] and [84]: levels within bounds."""

import itertools
import random
import unittest

from bound_cases import check_bounds, is_out, no_plans, some_bounds
from by_hand import all_moments, far_plans, keeps, level_of, like_plans, small_plans
from odd_values import no_integers, no_names, odd_integers, odd_texts, odd_values
from pileups.errors import InvalidInteger, InvalidPlan, InvalidStock, InvalidTie, InvalidTies, NoTie, NotSafe, Ring
from pileups.errors import TooMany, UnknownEvent
from pileups.plans import Plan
from pileups.safety import further, greatest_lag, least_start, safe
from pileups.stocks import Stock, greatest, least
from raising import RaisingCase

GREAT = 10 ** 30 - 1


def example():
    return Plan(["load", "sell"], [("load", "sell", 0), ("sell", "load", 3)])


def there(start=0):
    return Stock(start, {"load": 2, "sell": -2})


def with_lag(plan, index, lag):
    """Return the plan in which a tie has another lag."""
    ties = plan.ties()
    ties[index] = (ties[index][0], ties[index][1], lag)
    return Plan(plan.events(), ties, limits=plan.limits())


class TestSafe(RaisingCase):
    def test_example(self):
        plan, stock = example(), there()
        counts = safe(plan, [(stock, None, 5)])
        self.assertEqual([safe(plan, [(stock, 0, 6)]), level_of(stock, counts)], [None, 6])

    def assert_right(self, plan, bounds, moments):
        counts = safe(plan, bounds)
        if counts is None:
            self.assertFalse(any(is_out(bounds, moment) for moment in moments), (str(plan), bounds))
        else:
            self.assertEqual(sorted(counts), sorted(plan.events()))
            self.assertTrue(keeps(plan, counts))
            self.assertTrue(is_out(bounds, counts))
        return counts

    def test_safe_by_the_definition(self):
        rng, found = random.Random(81), []
        for plan in small_plans() + like_plans():
            moments = all_moments(plan, 6)
            for many in [1, 1, 2, 3, 8]:
                found.append(self.assert_right(plan, some_bounds(rng, plan.events(), many, 4), moments) is None)
        self.assertEqual([True in found, False in found], [True, True])

    def test_levels_that_reach_their_bounds(self):
        for plan in small_plans() + like_plans()[:15]:
            for amounts in itertools.product([-1, 0, 2], repeat=len(plan)):
                stock = Stock(3, dict(zip(plan.events(), amounts)))
                high, low = greatest(plan, stock)[0], least(plan, stock)[0]
                self.assertIs(safe(plan, [(stock, low, high)]), None)
                if high is not None:
                    self.assert_right(plan, [(stock, None, high - 1)], [])
                    self.assertIsNot(safe(plan, [(stock, None, high - 1)]), None)
                else:
                    self.assertTrue(is_out([(stock, None, GREAT)], safe(plan, [(stock, None, GREAT)])))
                if low is not None:
                    self.assertIsNot(safe(plan, [(stock, low + 1, None)]), None)
                else:
                    self.assertTrue(is_out([(stock, -GREAT, None)], safe(plan, [(stock, -GREAT, None)])))

    def test_far_plans(self):
        rng = random.Random(82)
        for plan in far_plans():
            for most in [5, GREAT]:
                events = plan.events()
                stock = Stock(rng.randint(-most, most), {event: rng.randint(-most, most) for event in events})
                high, low = greatest(plan, stock)[0], least(plan, stock)[0]
                self.assertIs(safe(plan, [(Stock(), 0, 0), (stock, low, high)]), None)
                for bounds in [[(stock, None, -GREAT if high is None else high - 1)],
                               [(stock, GREAT * GREAT if low is None else low + 1, None)]]:
                    self.assert_right(plan, [(Stock(), 0, 0), *bounds], [])
                    self.assertIsNot(safe(plan, bounds), None)

    def test_a_start_that_is_out(self):
        plan = Plan(["a"], limits={"a": 3})
        self.assertEqual(safe(plan, [(Stock(5, {"a": 1}), 6, None)]), {"a": 0})
        self.assertTrue(is_out([(Stock(5, {"a": 1}), None, 4)], safe(plan, [(Stock(5, {"a": 1}), None, 4)])))
        self.assertTrue(is_out([(Stock(5, {"a": 1}), None, 4)], safe(Plan(["a"]), [(Stock(5, {"a": 1}), None, 4)])))
        self.assertIsNot(safe(plan, [(Stock(5), 6, 4)]), None)
        self.assertIsNot(safe(plan, [(Stock(5), 9, 4)]), None)

    def test_no_bounds(self):
        for plan in small_plans():
            stock = Stock(0, {plan.events()[0]: 1})
            self.assertEqual([safe(plan, []), safe(plan, ()), safe(plan, [(stock, None, None)])], [None, None, None])

    def test_a_list_of_eight(self):
        plan = Plan(["a"], limits={"a": 2})
        bounds = [(Stock(0, {"a": 1}), 0, 2)] * 7
        self.assertIs(safe(plan, [*bounds, (Stock(0, {"a": 3}), None, 6)]), None)
        self.assertEqual(safe(bounds=(*bounds, (Stock(0, {"a": 3}), None, 5)), plan=plan), {"a": 2})

    def test_arguments_and_results(self):
        plan, bounds = example(), [(there(), None, 5)]
        safe(plan, bounds).clear()
        self.assertEqual([plan, bounds], [example(), [(there(), None, 5)]])
        self.assertEqual(safe(plan, bounds), safe(example(), tuple(bounds)))
        self.assertEqual(safe(plan, [(Stock(0, {"load": 1, "sell": 1}), 0, 9)]),
                         safe(plan, [(Stock(0, {"sell": 1, "load": 1}), 0, 9)]))

    def test_wrong_arguments(self):
        check_bounds(self, Plan(["a"]), safe)


class TestLeastStart(RaisingCase):
    def test_example(self):
        self.assertEqual(least_start(example(), there(), -4), -4)
        self.assertEqual(least_start(example(), Stock(99, {"load": -2, "sell": 2}), 0), 6)

    def test_by_the_definition(self):
        rng = random.Random(83)
        for plan in small_plans() + like_plans():
            for row in range(6):
                amounts = {event: rng.randint(-3, 3) for event in plan.events()}
                low = rng.randint(-9, 9)
                start = least_start(plan, Stock(rng.randint(-9, 9), amounts), low)
                if start is None:
                    self.assertIs(least(plan, Stock(0, amounts))[0], None)
                else:
                    self.assertIs(safe(plan, [(Stock(start, amounts), low, None)]), None)
                    self.assertIsNot(safe(plan, [(Stock(start - 1, amounts), low, None)]), None)

    def test_great_numbers(self):
        plan = Plan(["a"], limits={"a": GREAT})
        self.assertEqual(least_start(plan, Stock(7, {"a": -GREAT}), -GREAT), GREAT * GREAT - GREAT)
        self.assertIs(least_start(Plan(["a"]), Stock(7, {"a": -1}), -GREAT), None)
        self.assertEqual(least_start(stock=Stock(7, {"a": 1}), low=-3, plan=Plan(["a"])), -3)

    def test_wrong_arguments(self):
        for value in no_plans():
            self.assert_keeps(InvalidPlan, "value", value, least_start, value, 7, "x")
        for value in no_names() + [Plan(["a"])]:
            self.assert_keeps(InvalidStock, "value", value, least_start, example(), value, "x")
        self.assert_raises(UnknownEvent, "name", "b", least_start, example(), Stock(1, {"x": 1, "b": 1, "c": 0}), "x")
        for value in no_integers():
            self.assert_keeps(InvalidInteger, "value", value, least_start, example(), there(), value)


class TestGreatestLag(RaisingCase):
    def test_example(self):
        plan, stock = example(), there()
        found = [greatest_lag(plan, 1, [(stock, 0, 9)]), greatest_lag(plan, 0, [(stock, -5, None)]),
                 greatest_lag(plan, 0, [(stock, None, 7)])]
        self.assertEqual(found, [4, 2, None])

    def assert_right(self, plan, index, bounds, lags):
        """The greatest lag is right, told by the lags up to some, each with a plan of its own."""
        right = []
        for lag in lags:
            try:
                right.append(safe(with_lag(plan, index, lag), bounds) is None)
            except Ring:
                self.assertEqual(lag, 0)
        free = safe(plan.untied(index), bounds) is None
        if True not in right:
            self.assert_raises(NotSafe, "index", index, greatest_lag, plan, index, bounds)
            return "not safe"
        found = greatest_lag(plan, index, bounds)
        if free:
            self.assertIs(found, None)
            self.assertNotIn(False, right)
            return "any"
        self.assertEqual(found, lags[-len(right):][right.count(True) - 1], (str(plan), index, bounds))
        self.assertEqual(right, sorted(right, reverse=True))
        return "some"

    def test_by_the_definition(self):
        rng, found = random.Random(84), []
        for plan in small_plans() + like_plans():
            for index in range(len(plan.ties())):
                for many in [1, 1, 1, 2, 4]:
                    bounds = some_bounds(rng, plan.events(), many, 6)
                    found.append(self.assert_right(plan, index, bounds, range(30)))
        self.assertGreater(min(found.count(kind) for kind in ["not safe", "any", "some"]), 20)

    def test_great_numbers(self):
        rng, found = random.Random(85), []
        for plan in far_plans():
            for index in rng.sample(range(len(plan.ties())), min(6, len(plan.ties()))):
                try:
                    short = with_lag(plan, index, 0)
                except Ring:
                    short = with_lag(plan, index, 1)
                stock = Stock(rng.randint(-5, 5), {event: rng.randint(-5, 5) for event in plan.events()})
                high, low = greatest(short, stock)[0], least(short, stock)[0]
                room = rng.choice([-1, 0, rng.randint(0, 10 ** rng.randint(0, 33))])
                bounds = [(stock, None if low is None else low - rng.choice([0, 1, 10 ** 30]),
                           None if high is None else high + room)]
                found.append(self.assert_borders(plan, index, short, bounds))
        self.assertGreater(min(found.count(kind) for kind in ["not safe", "any", "some"]), 5, found)

    def assert_borders(self, plan, index, short, bounds):
        """The greatest lag is safe, and the next one is not; or any is; or none is, told by the least one."""
        if safe(short, bounds) is not None:
            self.assert_raises(NotSafe, "index", index, greatest_lag, plan, index, bounds)
            return "not safe"
        lag = greatest_lag(plan, index, bounds)
        if lag is None:
            self.assertIs(safe(plan.untied(index), bounds), None)
            return "any"
        self.assertIs(safe(with_lag(plan, index, lag), bounds), None)
        self.assertIsNot(safe(with_lag(plan, index, lag + 1), bounds), None)
        return "some"

    def test_one_level_that_bends_with_the_lag(self):
        plan = Plan(["a", "b", "c", "d"], [("a", "b", 7), ("b", "c", 0), ("b", "d", 0)],
                    limits={"a": GREAT, "c": GREAT + 10, "d": GREAT + 10 ** 9})
        stock = Stock(1, {"a": -5, "b": -1, "c": 3, "d": 9})
        short = with_lag(plan, 0, 0)
        low, high = greatest(short, stock)[0], greatest(plan.untied(0), stock)[0]
        slopes = [greatest(with_lag(plan, 0, lag + 1), stock)[0] - greatest(with_lag(plan, 0, lag), stock)[0]
                  for lag in [0, 10, 10 ** 9, GREAT + 10 ** 9]]
        self.assertEqual(slopes, [11, 8, 5, 0])
        for level in [low, low + 10, low + 11, low + 110, low + 117, low + 118, low + 10 ** 9, low + 10 ** 11,
                      high - 1]:
            self.assertEqual(self.assert_borders(plan, 0, short, [(stock, None, level)]), "some")
        self.assertEqual(self.assert_borders(plan, 0, short, [(stock, None, low - 1)]), "not safe")
        self.assertEqual(self.assert_borders(plan, 0, short, [(stock, None, high)]), "any")

    def test_the_lag_0_would_make_a_ring(self):
        plan = Plan(["a", "b"], [("a", "b", 0), ("b", "a", 5)])
        lead = Stock(0, {"a": 1, "b": -1})
        self.assertEqual([greatest_lag(plan, 1, [(lead, None, most)]) for most in [1, 2, 9]], [1, 2, 9])
        self.assert_raises(NotSafe, "index", 1, greatest_lag, plan, 1, [(lead, None, 0)])
        self.assertEqual(greatest_lag(plan, 0, [(lead, 0, 5)]), 0)
        own = Plan(["a"], [("a", "a", 4)], limits={"a": 2})
        self.assertIs(greatest_lag(own, 0, [(Stock(0, {"a": 1}), None, 2)]), None)
        self.assert_raises(NotSafe, "index", 0, greatest_lag, own, 0, [(Stock(0, {"a": 1}), None, 1)])

    def test_the_least_one_of_several_bounds(self):
        stock = there()
        bounds = [(stock, None, 99), (stock, 0, 9), (stock, -3, None), (Stock(0, {"load": 1, "sell": -1}), None, 7)]
        self.assertEqual(greatest_lag(example(), 1, bounds), 4)
        self.assertIs(greatest_lag(example(), 1, []), None)

    def test_arguments_and_results(self):
        plan, bounds = example(), [(there(), 0, 9)]
        self.assertEqual(greatest_lag(bounds=tuple(bounds), index=1, plan=plan), 4)
        self.assertEqual([plan, bounds], [example(), [(there(), 0, 9)]])

    def test_wrong_arguments(self):
        plan = Plan(["a", "b"], [("a", "b", 1)])
        check_bounds(self, plan, greatest_lag, [0])
        for value in no_names() + ["a"]:
            if value not in [0] or isinstance(value, bool):
                self.assert_keeps(NoTie, "index", value, greatest_lag, plan, value, 7)
        self.assert_raises(NoTie, "index", 1, greatest_lag, plan, 1, 7)
        index = 10 ** 3 - 999
        bounds = [(Stock(0, {"load": 1}), None, 3)]
        self.assert_keeps(NotSafe, "index", index, greatest_lag, example(), index, bounds)


class TestFurther(RaisingCase):
    def test_example(self):
        ties = [("sell", "load", 4), ("load", "sell", 0), ("sell", "load", 2), ("load", "sell", 1)]
        self.assertEqual(further(Plan(["load", "sell"]), [(there(), 0, 6)], ties), [1, 2])

    def wanted(self, plan, bounds, ties):
        for many in range(len(ties) + 1):
            for choice in itertools.combinations(range(len(ties)), many):
                try:
                    more = Plan(plan.events(), [*plan.ties(), *[ties[index] for index in choice]], limits=plan.limits())
                except Ring:
                    continue
                if safe(more, bounds) is None:
                    return list(choice)
        return None

    def test_by_the_definition(self):
        rng, found = random.Random(86), []
        for plan in small_plans() + like_plans():
            events = plan.events()
            for row in range(8):
                ties = [(rng.choice(events), rng.choice(events), rng.randint(0, 3)) for tie in range(rng.randint(0, 6))]
                bounds = some_bounds(rng, events, rng.randint(1, 2), 3)
                wanted = self.wanted(plan, bounds, ties)
                self.assertEqual(further(plan, bounds, ties), wanted, (str(plan), bounds, ties))
                found.append(-1 if wanted is None else len(wanted))
        self.assertEqual([found.count(many) > 0 for many in [-1, 0, 1, 2]], [True] * 4)

    def test_great_numbers(self):
        rng = random.Random(87)
        for plan in far_plans():
            events = plan.events()
            if len(plan.ties()) > 54:
                continue
            ties = [(rng.choice(events), rng.choice(events), rng.randint(0, GREAT)) for tie in range(4)]
            bounds = some_bounds(rng, events, 1, GREAT)
            self.assertEqual(further(plan, bounds, ties), self.wanted(plan, bounds, ties))

    def test_more_than_two(self):
        events = ["a", "b", "c", "d"]
        bounds = [(Stock(0, {"a": -1, "d": 1}), None, 6), (Stock(0, {"a": 1, "d": -1}), None, 6)]
        ties = [("a", "b", 2), ("b", "c", 2), ("d", "a", 7), ("c", "d", 3), ("c", "d", 2), ("d", "a", 6)]
        self.assertEqual(further(Plan(events), bounds, ties), [0, 1, 4, 5])
        self.assertIs(further(Plan(events), bounds, ties[:5]), None)
        self.assertEqual(further(Plan(events), [], ties), [])

    def test_rings_are_never_taken(self):
        plan = Plan(["a", "b"])
        equal = [(Stock(0, {"a": 1, "b": -1}), 0, 0)]
        self.assertIs(further(plan, equal, [("a", "b", 0), ("b", "a", 0), ("a", "b", 0)]), None)
        self.assertIs(further(plan.tied("a", "b", 0), equal, [("b", "a", 0), ("a", "a", 0)]), None)
        near = [(Stock(0, {"a": 1, "b": -1}), 0, 1)]
        self.assertEqual(further(plan, near, [("a", "b", 0), ("b", "a", 0), ("b", "a", 1)]), [0, 2])
        none = [(Stock(0, {"a": 1}), None, 0)]
        self.assertIs(further(plan, none, [("a", "a", 0), ("a", "b", 0), ("b", "a", 0)]), None)

    def test_arguments_and_results(self):
        plan, ties = Plan(["load", "sell"]), [("load", "sell", 1), ("sell", "load", 1)]
        bounds = [(there(), -2, 2)]
        further(plan, bounds, ties).clear()
        self.assertEqual(further(ties=tuple(ties), bounds=tuple(bounds), plan=plan), [0, 1])
        self.assertEqual([ties, bounds], [[("load", "sell", 1), ("sell", "load", 1)], [(there(), -2, 2)]])

    def test_wrong_bounds(self):
        check_bounds(self, Plan(["a"]), further, behind=[7])

    def test_wrong_ties(self):
        plan, bounds = Plan(["a", "b"]), [(Stock(0, {"a": 1}), 0, 9)]
        for value in odd_values() + odd_integers() + odd_texts():
            if not isinstance(value, (list, tuple)):
                self.assert_keeps(InvalidTies, "value", value, further, plan, bounds, value)
        long = [7] * 7
        self.assert_keeps(InvalidTies, "value", long, further, plan, bounds, long)
        right = ("a", "b", 0)
        for value in no_names() + [("a", "b"), ("a", "b", 1, 2), ["a", "b", 1]]:
            self.assert_keeps(InvalidTie, "value", value, further, plan, bounds, [right, value, 7])
        for value in no_names() + ["c"]:
            self.assert_keeps(UnknownEvent, "name", value, further, plan, bounds, [right, (value, "x", "x")])
            self.assert_keeps(UnknownEvent, "name", value, further, plan, bounds, [right, ("a", value, "x")])
        for value in no_integers() + [-1]:
            self.assert_keeps(InvalidInteger, "value", value, further, plan, bounds, [right, ("a", "b", value), 7])

    def test_too_many_ties(self):
        full = Plan(["a", "b"], [("a", "b", 1)] * 58)
        self.assertEqual(further(full, [], [("a", "b", 1)] * 2), [])
        self.assert_raises(TooMany, "bound", 60, further, full, [], [("a", "b", 1), ("b", "a", 0), ("a", "a", 0)])
        self.assert_raises(InvalidInteger, "value", -1, further, full, [],
                           [("a", "b", 1), ("b", "a", 0), ("a", "a", -1)])


if __name__ == "__main__":
    unittest.main()

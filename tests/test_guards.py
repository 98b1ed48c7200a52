"""Promises [131], [132] and [133]: events that are held back."""

import itertools
import random
import unittest

from bound_cases import check_bounds, is_out, no_plans, some_bounds
from by_hand import all_counts, all_moments, far_plans, keeps, like_plans, small_plans
from odd_values import no_names, odd_integers, odd_texts, odd_values
from pileups.errors import Barred, Duplicate, InvalidCounts, InvalidNames, InvalidPlan, InvalidRun, NotMoment
from pileups.errors import UnknownEvent
from pileups.guards import may_come, outburst, remaining, unguarded
from pileups.moments import behind, come
from pileups.plans import Plan
from pileups.safety import safe
from pileups.stocks import Stock
from pileups.tables import Table
from raising import RaisingCase

GREAT = 10 ** 30 - 1


def example():
    return Plan(["order", "bake", "eat"], [("order", "bake", 0), ("bake", "eat", 0)])


BOUNDS = [(Stock(0, {"bake": 1, "eat": -1}), None, 2)]


def told(order, bake, eat):
    return {"order": order, "bake": bake, "eat": eat}


def guard_cases():
    """Return small plans with bounds and events that are held back, and all moments up to a number."""
    rng, rows = random.Random(131), []
    for plan in small_plans() + rng.sample(like_plans(), 20):
        for row in range(3):
            ours = rng.sample(plan.events(), rng.randint(0, len(plan)))
            rows.append((plan, some_bounds(rng, plan.events(), rng.randint(1, 2), 3), ours, all_moments(plan, 7)))
    return rows


def led_to(moments, ours, counts):
    """Return the moments to which the others alone lead from a moment: these have come more often, ours as often."""
    return [other for other in moments if all(other[event] == counts[event] for event in ours)
            and all(other[event] >= counts[event] for event in counts)]


class TestRemaining(RaisingCase):
    def test_example(self):
        self.assertEqual(str(remaining(example(), told(1, 1, 0))),
                         "events order bake eat; tie order bake 0; tie bake eat 1")

    def test_by_the_definition(self):
        for plan in small_plans() + like_plans()[:20]:
            for counts in all_moments(plan, 2):
                rest = remaining(plan, counts)
                self.assertIsInstance(rest, Plan)
                self.assertEqual(rest.events(), plan.events())
                for more in all_counts(plan, 3):
                    there = {event: counts[event] + more[event] for event in counts}
                    self.assertIs(keeps(rest, more), keeps(plan, there), (str(plan), counts, more))

    def test_runs_that_follow(self):
        for plan in small_plans():
            for counts in all_moments(plan, 2):
                rest = remaining(plan, counts)
                for run in itertools.product(plan.events(), repeat=3):
                    ends = []
                    for call in [lambda: behind(plan, run, begin=counts), lambda: behind(rest, run)]:
                        try:
                            ends.append(call() and None)
                        except Barred as error:
                            ends.append(error.index)
                    self.assertEqual(ends[0], ends[1])

    def test_great_numbers(self):
        plan = Plan(["a", "b"], [("a", "b", GREAT), ("b", "a", 0)], limits={"b": 3 * GREAT})
        counts = {"a": GREAT, "b": 2 * GREAT}
        self.assertEqual(str(remaining(counts=counts, plan=plan)),
                         f"events a b; tie a b 0; tie b a {GREAT}; limit b {GREAT}")
        self.assertEqual(counts, {"a": GREAT, "b": 2 * GREAT})

    def test_wrong_arguments(self):
        for value in no_plans():
            self.assert_keeps(InvalidPlan, "value", value, remaining, value, 7)
        for value in odd_values() + odd_integers() + odd_texts() + [{"order": 1, "bake": 1}, told(1, 1, -1)]:
            self.assert_keeps(InvalidCounts, "value", value, remaining, example(), value)
        for counts in [told(0, 1, 0), told(1, 1, 2)]:
            self.assert_keeps(NotMoment, "value", counts, remaining, example(), counts)


class TestOutburst(RaisingCase):
    def test_by_the_definition(self):
        found = []
        for plan, bounds, ours, moments in guard_cases():
            for counts in all_moments(plan, 2):
                out = outburst(plan, bounds, ours, counts)
                found.append(out is None)
                near = led_to(moments, ours, counts)
                if out is None:
                    self.assertFalse(any(is_out(bounds, other) for other in near), (str(plan), bounds, ours, counts))
                else:
                    self.assertEqual(led_to([out], ours, counts), [out])
                    self.assertEqual([keeps(plan, out), is_out(bounds, out)], [True, True])
        self.assertGreater(min(found.count(True), found.count(False)), 100)

    def test_nothing_is_held_back(self):
        for plan in small_plans() + like_plans():
            bounds = some_bounds(random.Random(132), plan.events(), 2, 3)
            nothing = {event: 0 for event in plan.events()}
            self.assertIs(outburst(plan, bounds, [], nothing) is None, safe(plan, bounds) is None)
            self.assertIs(outburst(plan, bounds, plan.events(), nothing) is None, not is_out(bounds, nothing))

    def test_great_numbers(self):
        rng = random.Random(133)
        for plan in far_plans():
            table = Table(plan)
            event = rng.choice(plan.events())
            most = table.most(event)
            counts = table.least(event, rng.randint(0, GREAT if most is None else most))
            ours = rng.sample(plan.events(), rng.randint(0, len(plan)))
            bounds = some_bounds(rng, plan.events(), 2, GREAT)
            out = outburst(plan, bounds, ours, counts)
            if out is not None:
                self.assertEqual([keeps(plan, out), is_out(bounds, out), led_to([out], ours, counts)],
                                 [True, True, [out]])

    def test_endless_outbursts(self):
        plan = Plan(["a", "b"], [("a", "b", 2)])
        rising = [(Stock(0, {"b": 1}), None, GREAT)]
        self.assertIs(outburst(plan, rising, ["a"], {"a": GREAT - 2, "b": 5}), None)
        self.assertEqual(outburst(plan, rising, ["a"], {"a": GREAT - 1, "b": 5}), {"a": GREAT - 1, "b": GREAT + 1})
        out = outburst(plan, rising, [], {"a": 3, "b": 5})
        self.assertEqual([keeps(plan, out), out["b"] > GREAT, out["a"] >= 3], [True, True, True])

    def test_a_moment_that_is_out(self):
        self.assertEqual(outburst(example(), BOUNDS, example().events(), told(3, 3, 0)), told(3, 3, 0))
        self.assertIs(outburst(example(), BOUNDS, example().events(), told(3, 3, 1)), None)

    def test_arguments_and_results(self):
        ours, counts, bounds = ["order"], told(3, 1, 0), list(BOUNDS)
        outburst(example(), bounds, ours, counts).clear()
        self.assertEqual(outburst(counts=counts, ours=("order",), bounds=tuple(bounds), plan=example()), told(3, 3, 0))
        self.assertEqual([ours, counts, bounds], [["order"], told(3, 1, 0), BOUNDS])


class TestMayCome(RaisingCase):
    def test_example(self):
        found = [may_come(example(), BOUNDS, ["order"], told(1, 1, 0)),
                 may_come(example(), BOUNDS, ["order"], told(2, 1, 0))]
        self.assertEqual(found, [["order"], []])
        found = [unguarded(example(), BOUNDS, ["order"], ["order", "order", "bake", "order"]),
                 unguarded(example(), BOUNDS, ["order"], ["order", "bake", "eat", "order", "order"])]
        self.assertEqual(found, [3, None])

    def test_may_come_by_the_definition(self):
        found = []
        for plan, bounds, ours, moments in guard_cases():
            for counts in all_moments(plan, 2):
                wanted = [event for event in come(plan, counts) if event in ours
                          and outburst(plan, bounds, ours, {**counts, event: counts[event] + 1}) is None]
                self.assertEqual(may_come(plan, bounds, ours, counts), wanted)
                found.append(len(wanted))
        self.assertEqual([found.count(many) > 0 for many in range(3)], [True] * 3)

    def test_unguarded_by_the_definition(self):
        found = []
        for plan, bounds, ours, moments in guard_cases():
            for run in itertools.product(plan.events(), repeat=3):
                try:
                    parts = [behind(plan, run[:many]) for many in range(len(run) + 1)]
                except Barred:
                    continue
                wanted = next((index for index, event in enumerate(run) if event in ours
                               and event not in may_come(plan, bounds, ours, parts[index])), None)
                self.assertEqual(unguarded(plan, bounds, ours, list(run)), wanted)
                outs = [outburst(plan, bounds, ours, counts) for counts in parts]
                if outs[0] is None:
                    self.assertIs(wanted is None, all(out is None for out in outs))
                    found.append(wanted is None)
        self.assertGreater(min(found.count(True), found.count(False)), 50)

    def test_long_runs(self):
        run = ["order", "bake"] * 3 + ["eat", "order", "bake"] * 60
        self.assertEqual(unguarded(example(), BOUNDS, ["order"], run), 4)
        wide = [(Stock(0, {"bake": 1, "eat": -1}), None, 3)]
        self.assertIs(unguarded(example(), wide * 8, ["order"], run), None)
        self.assertIs(unguarded(example(), BOUNDS, [], run), None)
        self.assertIs(unguarded(example(), BOUNDS, ["order"], []), None)

    def test_arguments_and_results(self):
        ours, counts, run = ["order"], told(1, 1, 0), ["order", "order"]
        may_come(example(), BOUNDS, ours, counts).clear()
        self.assertEqual(may_come(counts=counts, ours=("order",), bounds=tuple(BOUNDS), plan=example()), ["order"])
        self.assertIs(unguarded(run=tuple(run), ours=("order",), bounds=tuple(BOUNDS), plan=example()), None)
        self.assertEqual([ours, counts, run], [["order"], told(1, 1, 0), ["order", "order"]])
        self.assertEqual(may_come(example(), [], ["eat", "order", "bake"], told(2, 1, 0)), ["order", "bake", "eat"])


class TestWrongArguments(RaisingCase):
    def test_wrong_bounds(self):
        for call in [outburst, may_come, unguarded]:
            check_bounds(self, Plan(["a"]), call, behind=[7, 7])

    def test_wrong_names(self):
        for call in [outburst, may_come, unguarded]:
            for value in odd_values() + odd_integers() + odd_texts() + ["order", {"order": 1}]:
                if not isinstance(value, (list, tuple)):
                    self.assert_keeps(InvalidNames, "value", value, call, example(), BOUNDS, value, 7)
            for value in no_names() + ["x"]:
                self.assert_keeps(UnknownEvent, "name", value, call, example(), BOUNDS, ["eat", value, "eat"], 7)
            again = "".join(["e", "at"])
            self.assert_keeps(Duplicate, "name", again, call, example(), BOUNDS, ["eat", "bake", again, "x"], 7)

    def test_wrong_counts(self):
        for call in [outburst, may_come]:
            for value in odd_values() + odd_integers() + odd_texts() + [{"order": 1, "bake": 1}, told(1, 1, True)]:
                self.assert_keeps(InvalidCounts, "value", value, call, example(), BOUNDS, ["eat"], value)
            for counts in [told(0, 1, 0), told(5, 1, 2)]:
                self.assert_keeps(NotMoment, "value", counts, call, example(), BOUNDS, (), counts)

    def test_wrong_runs(self):
        for value in [None, True, 0, "order", {}, {"order": 1}, ["x"], ["order", 1], [["order"]], example(),
                      ["eat", "x"]]:
            self.assert_keeps(InvalidRun, "value", value, unguarded, example(), BOUNDS, ["eat"], value)
        self.assert_raises(Barred, "index", 1, unguarded, example(), BOUNDS, ["order"], ["order", "eat", "bake"])
        # A run is refused wherever an event cannot come, also behind one of ours that may not come.
        self.assert_raises(Barred, "index", 3, unguarded, example(), BOUNDS, ["order"], ["order"] * 3 + ["eat"])


if __name__ == "__main__":
    unittest.main()

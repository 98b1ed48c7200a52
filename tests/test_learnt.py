"""Promises [121] and [122]: plans told back."""

import itertools
import random
import unittest

from bound_cases import no_plans
from by_hand import far_plans, greatest_count, greatest_lead, keeps, like_plans, small_plans
from odd_values import no_names, odd_integers, odd_texts, odd_values
from pileups.errors import Duplicate, Endless, InvalidEvents, InvalidLogs, InvalidName, InvalidPlan, TooLong
from pileups.errors import UnknownEvent
from pileups.learnt import is_told, learnt, teaching
from pileups.likeness import alike, needless, within
from pileups.plans import Plan
from pileups.tables import Table
from raising import RaisingCase

GREAT = 10 ** 30 - 1


def parts_of(events, logs):
    """Return the counts behind each beginning of each log, and behind nothing."""
    rows = [{event: 0 for event in events}]
    for log in logs:
        rows.extend({event: log[:many + 1].count(event) for event in events} for many in range(len(log)))
    return rows


def some_logs(rng, events, many, most):
    return [[rng.choice(events) for step in range(rng.randint(0, most))] for row in range(many)]


def are_runs(plan, logs):
    return all(keeps(plan, counts) for counts in parts_of(plan.events(), logs))


def held_plans():
    """Return plans in which no event can come any number of times."""
    return [plan for plan in small_plans() + like_plans()
            if all(greatest_count(plan, event, 7) is not None for event in plan.events())]


class TestLearnt(RaisingCase):
    def test_example(self):
        logs = [["load", "load", "sell"], ["load", "sell", "load"]]
        plan = learnt(["load", "sell"], logs)
        self.assertEqual([str(plan), is_told(plan, logs), is_told(plan, logs[:1]), is_told(plan, teaching(plan))],
                         ["events load sell; tie load sell 0; limit load 2; limit sell 1", True, True, True])

    def assert_learnt(self, events, logs):
        """What is learnt lets the logs, has no needless tie, and just the leads and counts of their beginnings."""
        plan = learnt(events, logs)
        self.assertIsInstance(plan, Plan)
        self.assertEqual([plan.events(), needless(plan), are_runs(plan, logs)], [list(events), [], True])
        parts, table = parts_of(events, logs), Table(plan)
        self.assertEqual([table.most(event) for event in events],
                         [max(counts[event] for counts in parts) for event in events])
        for earlier, later in itertools.product(events, repeat=2):
            self.assertEqual(table.lead(earlier, later), max(counts[later] - counts[earlier] for counts in parts))
        return plan

    def test_by_the_definition(self):
        rng = random.Random(121)
        for row in range(60):
            events = rng.sample(["b", "a", "zz"], rng.randint(1, 3))
            logs = some_logs(rng, events, rng.randint(0, 4), 5)
            plan = self.assert_learnt(events, logs)
            for earlier, later in itertools.product(events, repeat=2):
                self.assertEqual(greatest_lead(plan, earlier, later, 6), Table(plan).lead(earlier, later))

    def test_no_plan_with_these_runs_has_fewer_moments(self):
        rng, found = random.Random(122), 0
        plans = like_plans()
        for row in range(40):
            logs = some_logs(rng, plans[0].events(), rng.randint(0, 2), 3)
            plan = learnt(plans[0].events(), logs)
            for other in plans:
                if are_runs(other, logs):
                    self.assertIs(within(plan, other), None)
                    found += 1
        self.assertGreater(found, 100)

    def test_many_events_and_long_logs(self):
        rng = random.Random(123)
        for many, most in [(80, 30), (3, 200), (1, 0)]:
            self.assert_learnt(list("hgfedcba"), some_logs(rng, list("hgfedcba"), many, most))
        self.assertEqual(learnt(["a"], [["a"] * 200] * 80), Plan(["a"], limits={"a": 200}))

    def test_nothing_happens(self):
        still = Plan(["a", "b"], limits={"a": 0, "b": 0})
        for logs in [[], (), [[]], [(), []]]:
            self.assertIs(alike(learnt(["a", "b"], logs), still), None)
            self.assertIs(is_told(still, logs), True)
            self.assertIs(is_told(Plan(["a", "b"]), logs), False)

    def test_arguments_and_results(self):
        events, logs = ["a", "b"], [["a", "b"], ["a", "a"]]
        plan = learnt(events, logs)
        self.assertEqual([events, logs], [["a", "b"], [["a", "b"], ["a", "a"]]])
        self.assertEqual(learnt(logs=(("a", "b"), ["a", "a"]), events=("a", "b")), plan)
        self.assertIs(is_told(logs=(("a", "b"), ["a", "a"]), plan=plan), True)
        self.assertEqual(learnt(["b", "a"], logs).events(), ["b", "a"])

    def test_wrong_events(self):
        for value in odd_values() + odd_integers() + odd_texts():
            if not isinstance(value, (list, tuple)) or not value:
                self.assert_keeps(InvalidEvents, "value", value, learnt, value, 7)
        self.assert_raises(InvalidEvents, "value", list("abcdefghi"), learnt, list("abcdefghi"), 7)
        for value in no_names():
            self.assert_keeps(InvalidName, "value", value, learnt, ["a", value, "a"], 7)
        self.assert_raises(Duplicate, "name", "a", learnt, ["a", "b", "a", "?"], 7)

    def test_wrong_logs(self):
        plan = Plan(["a", "b"])
        for call in [lambda logs: learnt(["a", "b"], logs), lambda logs: is_told(plan, logs)]:
            for value in odd_values() + odd_integers() + odd_texts() + ["a", {"a": 1}]:
                if not isinstance(value, (list, tuple)):
                    self.assert_keeps(InvalidLogs, "value", value, call, value)
                    self.assert_keeps(InvalidLogs, "value", value, call, [["a"], value, ["x"]])
            long = [7] * 81
            self.assert_keeps(InvalidLogs, "value", long, call, long)
            long = ["x"] * 201
            self.assert_keeps(InvalidLogs, "value", long, call, [["a"], long])
            for value in no_names() + ["x"]:
                self.assert_keeps(UnknownEvent, "name", value, call, [["a"], ["b", value, "y"], 7])
                self.assert_keeps(UnknownEvent, "name", value, call, ((value,),))

    def test_wrong_plans(self):
        for value in no_plans():
            self.assert_keeps(InvalidPlan, "value", value, is_told, value, 7)
            self.assert_keeps(InvalidPlan, "value", value, teaching, value)

    def test_is_told_by_the_definition(self):
        rng, kinds = random.Random(124), []
        for plan in like_plans():
            for row in range(3):
                logs = some_logs(rng, plan.events(), 4, 5)
                told = is_told(plan, logs)
                self.assertIs(told, alike(learnt(plan.events(), logs), plan) is None)
            if plan in held_plans():
                runs = teaching(plan)
                kinds.extend(is_told(plan, runs[:many]) for many in range(len(runs) + 1))
        self.assertEqual([True in kinds, False in kinds], [True, True])


class TestTeaching(RaisingCase):
    def test_by_the_definition(self):
        self.assertGreater(len(held_plans()), 8)
        for plan in held_plans():
            runs = teaching(plan)
            self.assertIsInstance(runs, list)
            self.assertTrue(all(isinstance(run, list) for run in runs))
            self.assertEqual(len(runs), len({tuple(run) for run in runs}))
            self.assertEqual([are_runs(plan, [run]) for run in runs], [True] * len(runs))
            self.assertIs(is_told(plan, runs), True)

    def test_long_runs_of_eight_events(self):
        events = list("abcdefgh")
        ties = [(earlier, later, place) for place, (earlier, later) in enumerate(itertools.permutations(events, 2))]
        plan = Plan(events, ties, limits={"a": 25})
        runs = teaching(plan)
        self.assertEqual([is_told(plan, runs), are_runs(plan, runs), len(runs) <= 80], [True, True, True])
        ring = Plan(events, list(zip(events, [*events[1:], "a"], [0] * 7 + [1])), limits={"a": 25})
        self.assertIs(is_told(ring, teaching(ring)), True)
        self.assertEqual(max(len(run) for run in teaching(ring)), 200)
        self.assert_raises(TooLong, "total", 201, teaching, ring.limited("a", 26))

    def test_endless_events(self):
        self.assert_raises(Endless, "event", "sell", teaching, learnt(["load", "sell"], [["load", "load", "sell"]])
                           .limited("sell", None).untied(0))
        self.assert_raises(Endless, "event", "b", teaching, Plan(["a", "b", "c"], limits={"a": GREAT}))
        self.assert_raises(Endless, "event", "b", teaching, Plan(["b", "a", "c"], [("a", "c", 0)], limits={"a": 1}))

    def test_too_long_runs(self):
        self.assert_raises(TooLong, "total", 201, teaching, Plan(["a", "b"], limits={"a": 200, "b": 201}))
        self.assert_raises(TooLong, "total", GREAT, teaching, Plan(["b", "a"], limits={"b": GREAT, "a": 300}))
        plan = Plan(["a", "b", "c"], [("a", "b", 0), ("b", "c", 0)], limits={"a": 150, "b": 90, "c": 80})
        self.assert_raises(TooLong, "total", 240, teaching, plan)
        self.assert_raises(TooLong, "total", 201, teaching, plan.limited("b", 67))
        self.assertIs(is_told(plan.limited("b", 66), teaching(plan.limited("b", 66))), True)

    def test_nothing_can_come(self):
        plan = Plan(["a", "b"], limits={"a": 0, "b": 0})
        self.assertIs(is_told(plan, teaching(plan)), True)

    def test_new_lists_are_returned(self):
        plan = Plan(["a", "b"], [("a", "b", 0)], limits={"a": 3})
        wanted = teaching(plan)
        teaching(plan)[0].append("x")
        teaching(plan).clear()
        self.assertEqual([teaching(plan=plan), plan], [wanted, Plan(["a", "b"], [("a", "b", 0)], limits={"a": 3})])

    def test_far_plans(self):
        for plan in far_plans():
            table = Table(plan)
            free = [event for event in plan.events() if table.most(event) is None]
            if free:
                self.assert_raises(Endless, "event", free[0], teaching, plan)
                continue
            sums = [sum(table.least(event, table.most(event)).values()) for event in plan.events()]
            long = [total for total in sums if total > 200]
            if long:
                self.assert_raises(TooLong, "total", long[0], teaching, plan)
            else:
                self.assertIs(is_told(plan, teaching(plan)), True)


if __name__ == "__main__":
    unittest.main()

"""Promises [101], [102] and [103]: logs, what fits, and what can follow."""

import itertools
import random
import unittest

from bound_cases import no_plans
from by_hand import far_plans, keeps, like_plans, small_plans
from odd_values import no_names, odd_integers, odd_texts, odd_values
from pileups.errors import Duplicate, InvalidLog, InvalidNames, InvalidPlan, Misfit, TooLong, UnknownEvent
from pileups.likeness import seen
from pileups.logs import coming, filled, future, misfit, parting
from pileups.moments import behind, is_moment, run_to
from pileups.plans import Plan
from pileups.tables import Table
from raising import RaisingCase

GREAT = 10 ** 30 - 1


def example():
    return Plan(["plan", "do", "check"], [("plan", "do", 0), ("do", "check", 0), ("check", "plan", 2)])


SEEN = ["plan", "check"]


def is_run(plan, run):
    """Return True if a list of events is a run, told in the words of the definition."""
    parts = [run[:many] for many in range(len(run) + 1)]
    return all(keeps(plan, {event: part.count(event) for event in plan.events()}) for part in parts)


def all_runs(plan, most):
    """Return all runs of at most so many events."""
    runs = [[]]
    for many in range(most):
        runs.extend([[*run, event] for run in runs if len(run) == many for event in plan.events()
                     if is_run(plan, [*run, event])])
    return runs


def cases():
    """Return small plans, some of their events, and the runs whose seen parts are all logs of at most three events."""
    rng, rows = random.Random(101), []
    for plan in small_plans() + rng.sample(like_plans(), 12):
        many = rng.randint(1, len(plan))
        names = rng.sample(plan.events(), many)
        # No hidden event needs to come more often than the seen ones together, and no log has more than three events.
        runs = all_runs(plan, 3 + 3 * (len(plan) - many) if len(plan) - many < 2 else 6)
        rows.append((plan, names, runs, 3 if len(plan) - many < 2 else 2))
    return rows


def part_of(run, names):
    return [event for event in run if event in names]


def all_logs(names, most):
    return [list(log) for many in range(most + 1) for log in itertools.product(names, repeat=many)]


class TestFits(RaisingCase):
    def test_example(self):
        plan = example()
        found = [misfit(plan, SEEN, ["plan", "check", "check"]), coming(plan, SEEN, ["plan"]),
                 filled(plan, SEEN, ["plan", "check"])]
        self.assertEqual(found, [2, ["plan", "check"], ["plan", "do", "check"]])
        self.assert_raises(Misfit, "index", 2, filled, plan, SEEN, ["plan", "plan", "plan"])

    def test_misfit_by_the_definition(self):
        fitting = []
        for plan, names, runs, most in cases():
            parts = [part_of(run, names) for run in runs]
            for log in all_logs(names, most):
                wanted = next((index for index in range(len(log)) if log[:index + 1] not in parts), None)
                self.assertEqual(misfit(plan, names, log), wanted, (str(plan), names, log))
                fitting.append(wanted is None)
        self.assertGreater(min(fitting.count(True), fitting.count(False)), 50)

    def test_coming_by_the_definition(self):
        for plan, names, runs, most in cases():
            parts = [part_of(run, names) for run in runs]
            for log in all_logs(names, most - 1):
                if log in parts:
                    wanted = [event for event in plan.events() if event in names and [*log, event] in parts]
                    self.assertEqual(coming(plan, names, log), wanted)

    def test_filled_by_the_definition(self):
        for plan, names, runs, most in cases():
            for log in all_logs(names, most):
                full = [run for run in runs if part_of(run, names) == log]
                if full:
                    run = filled(plan, names, log)
                    self.assertIsInstance(run, list)
                    self.assertEqual([part_of(run, names), is_run(plan, run), len(run)],
                                     [log, True, min(len(run) for run in full)])

    def test_filled_of_great_plans(self):
        rng = random.Random(102)
        for plan in far_plans():
            run = []
            for step in range(60):
                events = [event for event in plan.events() if is_moment(plan, behind(plan, run))
                          and self.comes(plan, run, event)]
                if events:
                    run.append(rng.choice(events))
            names = rng.sample(plan.events(), rng.randint(1, len(plan)))
            log = part_of(run, names)
            self.assertIs(misfit(plan, names, log), None)
            full = filled(plan, names, log)
            self.assertEqual(part_of(full, names), log)
            self.assertLessEqual(len(full), len(run))
            behind(plan, full)

    def comes(self, plan, run, event):
        counts = behind(plan, run)
        return is_moment(plan, {**counts, event: counts[event] + 1})

    def test_long_runs(self):
        plan = Plan(["a", "b", "c"], [("a", "b", 0), ("c", "b", 150)])
        self.assertEqual(len(filled(plan, ["b"], ["b"] * 100)), 200)
        self.assert_raises(TooLong, "total", 202, filled, plan, ["b"], ["b"] * 101)
        self.assert_raises(TooLong, "total", 372, filled, plan, ["b"], ["b"] * 174)
        self.assertEqual(filled(plan, ["a"], ["a"] * 200), ["a"] * 200)
        self.assert_raises(TooLong, "total", 201, filled, plan, ["a"], ["a"] * 201)
        ring = Plan(["a", "b"], [("a", "b", 0), ("b", "a", 205)])
        self.assert_raises(Misfit, "index", 205, filled, ring.limited("b", 0), ["a"], ["a"] * 206)

    def test_arguments_and_results(self):
        plan, names, log = example(), ["check", "plan"], ["plan", "check"]
        coming(plan, names, log).clear()
        filled(plan, names, log).clear()
        self.assertEqual(coming(log=tuple(log), names=tuple(names), plan=plan), ["plan"])
        self.assertEqual(filled(log=tuple(log), names=tuple(names), plan=plan), ["plan", "do", "check"])
        self.assertEqual(misfit(log=("check",), names=tuple(names), plan=plan), 0)
        self.assertEqual([plan, names, log], [example(), ["check", "plan"], ["plan", "check"]])

    def test_hidden_limits(self):
        plan = Plan(["a", "b"], [("a", "b", 1)], limits={"a": 2})
        self.assertEqual([misfit(plan, ["b"], ["b"] * 5), misfit(plan, ["b"], ["b"] * 3)], [3, None])
        self.assertEqual([coming(plan, ["b"], ["b"] * 2), coming(plan, ["b"], ["b"] * 3)], [["b"], []])


class TestFuture(RaisingCase):
    def test_example(self):
        plan = example()
        self.assertEqual([parting(plan, SEEN, ["plan"], ["plan", "plan", "check"]),
                          parting(plan, SEEN, ["plan"], ["plan", "plan"])], [None, (["plan"], 0)])

    def test_future_by_the_definition(self):
        for plan, names, runs, most in cases():
            parts = [part_of(run, names) for run in runs]
            for log in all_logs(names, most - 1):
                if log not in parts:
                    continue
                rest = future(plan, names, log)
                self.assertIsInstance(rest, Plan)
                self.assertEqual(rest.events(), [event for event in plan.events() if event in names])
                for more in all_logs(names, most - len(log)):
                    self.assertIs(is_run(rest, more), [*log, *more] in parts, (str(plan), names, log, more))

    def test_future_of_great_plans(self):
        rng = random.Random(103)
        for plan in far_plans():
            names = rng.sample(plan.events(), rng.randint(1, len(plan)))
            told, log = seen(plan, names), []
            for step in range(20):
                able = coming(plan, names, log)
                log.extend(able and [rng.choice(able)])
            rest, counts = future(plan, names, log), behind(told, log)
            table, left = Table(told), Table(rest)
            for earlier, later in itertools.product(told.events(), repeat=2):
                lead = table.lead(earlier, later)
                wanted = None if lead is None else lead + counts[earlier] - counts[later]
                if left.lead(earlier, later) != wanted:
                    # Less is barred where the earlier event comes at least as often as it has come already.
                    self.assertLess(left.lead(earlier, later), wanted if wanted is not None else GREAT ** 2)
            for event in told.events():
                most = table.most(event)
                self.assertEqual(left.most(event), None if most is None else most - counts[event])
            for step in range(20):
                able = coming(plan, names, log)
                self.assertEqual(coming(rest, rest.events(), log[20:]) if len(log) >= 20 else able, able)
                log.extend(able and [rng.choice(able)])

    def test_parting_by_the_definition(self):
        found = []
        for plan, names, runs, most in cases():
            logs = [log for log in all_logs(names, 2) if misfit(plan, names, log) is None]
            for one, other in itertools.product(logs[:6], repeat=2):
                parted = parting(plan, names, one, other)
                found.append(parted is None)
                near = [more for more in all_logs(names, 3 if parted is None else min(3, len(parted[0]) - 1))]
                for more in near:
                    self.assertIs(misfit(plan, names, one + more) is None, misfit(plan, names, other + more) is None)
                if parted is not None:
                    self.assertIsInstance(parted, tuple)
                    log, which = parted
                    self.assertIsInstance(log, list)
                    self.assertEqual([misfit(plan, names, one + log) is None, misfit(plan, names, other + log) is None],
                                     [which == 0, which == 1])
        self.assertGreater(min(found.count(True), found.count(False)), 20)

    def test_it_does_not_matter_which_hidden_events_came_when(self):
        plan = Plan(["a", "b", "c"], [("a", "b", 0), ("b", "c", 0), ("c", "a", 4)])
        self.assertIs(parting(plan, ["a", "c"], ["a", "a", "c"], ["a", "c", "a"]), None)
        self.assertEqual(parting(plan, ["c", "a"], ["a", "c"], ["a", "a", "c"]), (["c"], 1))
        self.assertEqual(parting(plan, ["c", "a"], ["a", "a", "c"], ["a", "c"]), (["c"], 0))
        self.assertEqual(parting(plan, ["a"], ["a"], ["a", "a"]), None)

    def test_great_and_long_partings(self):
        plan = Plan(["a", "b"], [("a", "b", 197)])
        self.assertEqual(parting(plan, ["a", "b"], ["b"], ["b", "b"]), (["b"] * 196, 0))
        plan = Plan(["a", "b"], [("a", "b", 202)])
        self.assertEqual(parting(plan, ["b"], ["b"], ["b"] * 2), None)
        self.assertEqual(parting(plan, ["a", "b"], ["b"] * 2, ["b"] * 3), (["b"] * 200, 0))
        self.assert_raises(TooLong, "total", 201, parting, plan, ["a", "b"], ["b"], ["b"] * 2)
        far = Plan(["a"], limits={"a": GREAT})
        self.assert_raises(TooLong, "total", GREAT, parting, far, ["a"], ["a"], [])
        self.assertIs(parting(far.limited("a", None), ["a"], ["a"], []), None)

    def test_arguments_and_results(self):
        plan, one, other = example(), ["plan"], ["plan", "plan"]
        parting(plan, SEEN, one, other)[0].clear()
        self.assertEqual(parting(other=tuple(other), one=tuple(one), names=tuple(SEEN), plan=plan), (["plan"], 0))
        self.assertEqual([one, other, plan, SEEN], [["plan"], ["plan", "plan"], example(), ["plan", "check"]])
        self.assertEqual(future(log=("plan",), names=("check", "plan"), plan=plan), future(plan, SEEN, ["plan"]))
        self.assertEqual(run_to(future(plan, SEEN, ["plan"]), {"plan": 0, "check": 1}), ["check"])


class TestWrongArguments(RaisingCase):
    calls = [misfit, coming, filled, future, lambda plan, names, log: parting(plan, names, log, 7),
             lambda plan, names, log: parting(plan, names, ["plan"], log)]

    def test_wrong_plans_and_names(self):
        for call in self.calls[:5]:
            for value in no_plans():
                self.assert_keeps(InvalidPlan, "value", value, call, value, 7, 7)
            for value in odd_values() + odd_integers() + odd_texts() + ["plan", {"plan": 1}]:
                if not isinstance(value, (list, tuple)) or not value:
                    self.assert_keeps(InvalidNames, "value", value, call, example(), value, 7)
            for value in no_names() + ["x"]:
                self.assert_keeps(UnknownEvent, "name", value, call, example(), ["plan", value, "plan"], 7)
            again = "".join(["pl", "an"])
            self.assert_keeps(Duplicate, "name", again, call, example(), ["plan", "do", again, "x"], 7)

    def test_wrong_logs(self):
        wrong = [None, True, False, {}, {"plan": 1}, "plan", "a", example(), ["do"], ["x"], ["plan", "check", "do"],
                 ["plan", None], [["plan"]], [{}], (example(),), *odd_integers(), *odd_texts()]
        for call in self.calls:
            for value in wrong:
                self.assert_keeps(InvalidLog, "value", value, call, example(), SEEN, value)

    def test_logs_that_do_not_fit(self):
        for call in [coming, filled, future, lambda *given: parting(*given, 7),
                     lambda plan, names, log: parting(plan, names, ["plan"], log)]:
            self.assert_raises(Misfit, "index", 0, call, example(), SEEN, ["check", "plan"])
            self.assert_raises(Misfit, "index", 2, call, example(), SEEN, ["plan", "plan", "plan", "check"])
            self.assert_raises(Misfit, "index", 4, call, example(), SEEN, ("plan", "plan", "check", "plan", "plan"))
        # A log that does not fit is refused before the other one is looked at.
        self.assert_raises(Misfit, "index", 0, parting, example(), SEEN, ["check"], ["plan", "check", "check"])


if __name__ == "__main__":
    unittest.main()

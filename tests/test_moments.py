"""Promises [31], [32], [33] and [34]: moments and runs."""

import itertools
import unittest

from by_hand import all_counts, keeps, small_plans
from odd_values import no_counts, odd_integers, odd_texts, odd_values
from pileups.errors import Barred, InvalidCounts, InvalidPlan, InvalidRun, NotBehind, NotMoment, TooLong
from pileups.moments import barred, behind, came, come, higher, is_counts, is_moment, lower, run_to
from pileups.plans import Plan
from raising import RaisingCase


def example():
    ties = [("plan", "do", 0), ("do", "check", 0), ("check", "plan", 2)]
    return Plan(["plan", "do", "check"], ties, limits={"check": 5})


def told(plan, do, check):
    return {"plan": plan, "do": do, "check": check}


def with_step(counts, event, step):
    changed = dict(counts)
    changed[event] += step
    return changed


class TestCounts(RaisingCase):
    def test_counts(self):
        plan = example()
        for value in [told(0, 0, 0), told(9, 0, 3), told(0, 0, 10 ** 40), {"check": 1, "do": 2, "plan": 3}]:
            self.assertIs(is_counts(plan, value), True)
        self.assertIs(is_counts(plan=plan, value=told(1, 1, 1)), True)

    def test_what_is_nearly_counts(self):
        plan = example()
        wrong = [{"plan": 1, "do": 1}, {**told(1, 1, 1), "x": 1}, {"plan": 1, "do": 1, "x": 1},
                 {**told(1, 1, 1), 0: 1}, {"plan": 1, "do": 1, 0: 1}, {}, [1, 1, 1], ["plan", "do", "check"],
                 [("plan", 1), ("do", 1), ("check", 1)], (1, 1, 1), {"plan": [1], "do": 1, "check": 1}]
        wrong.extend([told(1, value, 1) for value in no_counts()])
        wrong.extend([told(value, 1, 1) for value in no_counts()])
        for value in wrong + odd_values() + odd_integers() + odd_texts():
            self.assertIs(is_counts(plan, value), False)

    def test_counts_are_of_one_plan(self):
        self.assertIs(is_counts(Plan(["a"]), {"a": 1}), True)
        self.assertIs(is_counts(Plan(["b"]), {"a": 1}), False)


class TestMoments(RaisingCase):
    def test_example(self):
        plan, counts = example(), told(2, 1, 0)
        found = [come(plan, counts), came(plan, counts), barred(plan, told(3, 3, 0))]
        self.assertEqual(found, [["do", "check"], ["plan", "do"], ("tie", 2)])

    def test_moments_by_the_definition(self):
        for plan in small_plans():
            for counts in all_counts(plan, 4):
                self.assertIs(is_moment(plan, counts), keeps(plan, counts))
                self.assertIs(barred(plan, counts) is None, keeps(plan, counts))

    def test_the_first_tie_that_is_broken(self):
        plan = Plan(["a", "b"], [("a", "a", 1), ("a", "b", 4), ("a", "b", 2), ("a", "b", 1), ("b", "a", 1)])
        self.assertEqual([barred(plan, {"a": 0, "b": count}) for count in range(7)],
                         [None, None, ("tie", 3), ("tie", 2), ("tie", 2), ("tie", 1), ("tie", 1)])
        self.assertEqual([barred(plan, {"a": count, "b": 0}) for count in range(4)],
                         [None, None, ("tie", 4), ("tie", 4)])

    def test_a_tie_stands_ahead_of_a_limit(self):
        plan = Plan(["a", "b"], [("a", "b", 0)], limits={"a": 0, "b": 1})
        self.assertEqual(barred(plan, {"a": 1, "b": 2}), ("tie", 0))
        self.assertEqual(barred(plan, {"a": 2, "b": 2}), ("limit", "a"))
        self.assertEqual(barred(plan, {"a": 0, "b": 1}), ("tie", 0))

    def test_the_first_limit_in_the_order_of_the_plan(self):
        plan = Plan(["c", "a", "b"], limits={"a": 1, "b": 2, "c": 3})
        found = [barred(plan, {"a": 2, "b": 3, "c": 4}), barred(plan, {"a": 2, "b": 3, "c": 3}),
                 barred(plan, {"a": 1, "b": 3, "c": 3}), barred(plan, {"b": 2, "a": 1, "c": 3})]
        self.assertEqual(found, [("limit", "c"), ("limit", "a"), ("limit", "b"), None])

    def test_great_numbers(self):
        great = 10 ** 30
        plan = Plan(["a", "b"], [("a", "b", great)], limits={"a": great})
        self.assertEqual(barred(plan, {"a": great, "b": 2 * great}), None)
        self.assertEqual(barred(plan, {"a": great, "b": 2 * great + 1}), ("tie", 0))
        self.assertEqual(barred(plan, {"a": great + 1, "b": 0}), ("limit", "a"))

    def test_come_and_came_by_the_definition(self):
        for plan in small_plans():
            for counts in all_counts(plan, 3):
                if not keeps(plan, counts):
                    continue
                later = [event for event in plan.events() if keeps(plan, with_step(counts, event, 1))]
                ahead = [event for event in plan.events()
                         if counts[event] > 0 and keeps(plan, with_step(counts, event, -1))]
                self.assertEqual([come(plan, counts), came(plan, counts)], [later, ahead])

    def test_nothing_can_come_or_has_come(self):
        self.assertEqual(come(Plan(["a"], limits={"a": 0}), {"a": 0}), [])
        self.assertEqual(came(Plan(["a"]), {"a": 0}), [])

    def test_counts_may_be_in_any_order(self):
        self.assertEqual(come(example(), {"check": 0, "do": 1, "plan": 2}), ["do", "check"])
        self.assertEqual(came(example(), {"check": 0, "do": 1, "plan": 2}), ["plan", "do"])

    def test_counts_are_not_modified(self):
        plan, counts = example(), told(2, 1, 0)
        is_counts(plan, counts)
        is_moment(plan, counts)
        barred(plan, counts)
        come(plan, counts).append("x")
        came(plan, counts).clear()
        self.assertEqual(counts, told(2, 1, 0))
        self.assertEqual([come(plan, counts), came(plan, counts)], [["do", "check"], ["plan", "do"]])

    def test_wrong_plans(self):
        for value in [None, True, 0, "a", "events a", [], {}, ["a"], [Plan(["a"])], InvalidPlan(1)]:
            for call in [is_counts, is_moment, barred, come, came]:
                self.assert_keeps(InvalidPlan, "value", value, call, value, None)

    def test_wrong_counts(self):
        wrong = odd_values() + odd_integers() + odd_texts() + [told(1, True, 0), told(1, 1, -1)]
        for value in wrong:
            for call in [is_moment, barred, come, came]:
                self.assert_keeps(InvalidCounts, "value", value, call, example(), value)

    def test_not_a_moment(self):
        for counts in [told(3, 3, 0), told(0, 1, 0), told(6, 6, 6)]:
            for call in [come, came]:
                self.assert_keeps(NotMoment, "value", counts, call, example(), counts)


class TestBehind(RaisingCase):
    def test_example(self):
        self.assertEqual(behind(example(), ["do"], begin=told(2, 1, 0)), told(2, 2, 0))
        self.assert_raises(Barred, "index", 1, behind, example(), ["plan", "check"])

    def test_runs_from_the_start(self):
        self.assertEqual(behind(example(), []), told(0, 0, 0))
        self.assertEqual(behind(example(), ()), told(0, 0, 0))
        self.assertEqual(behind(example(), ["plan", "plan", "do"], begin=None), told(2, 1, 0))
        self.assertEqual(behind(plan=example(), run=("plan", "do", "check", "plan")), told(2, 1, 1))

    def test_runs_from_a_moment(self):
        begin = told(2, 1, 0)
        self.assertEqual(behind(example(), [], begin=begin), begin)
        self.assertEqual(behind(example(), ["check", "plan"], begin=begin), told(3, 1, 1))
        self.assert_raises(Barred, "index", 0, behind, example(), ["plan"], begin=begin)
        self.assert_raises(Barred, "index", 2, behind, example(), ["check", "plan", "plan", "do"], begin=begin)
        self.assertEqual(begin, told(2, 1, 0))

    def test_a_new_dict_is_returned(self):
        begin = told(2, 1, 0)
        behind(example(), [], begin=begin)["plan"] = 7
        self.assertEqual(begin, told(2, 1, 0))

    def test_the_first_event_that_cannot_come(self):
        for plan in small_plans():
            for run in itertools.product(plan.events(), repeat=4):
                counts, wanted = {event: 0 for event in plan.events()}, None
                for index, event in enumerate(run):
                    counts[event] += 1
                    if wanted is None and not keeps(plan, counts):
                        wanted = index
                if wanted is None:
                    self.assertEqual(behind(plan, list(run)), counts)
                else:
                    self.assert_raises(Barred, "index", wanted, behind, plan, run)

    def test_a_barred_event_is_not_mended_by_later_ones(self):
        self.assert_raises(Barred, "index", 0, behind, Plan(["a", "b"], [("a", "b", 0)]), ["b", "a"])

    def test_limits_bar(self):
        self.assert_raises(Barred, "index", 2, behind, Plan(["a"], limits={"a": 2}), ["a", "a", "a", "a"])

    def test_a_long_run(self):
        self.assertEqual(behind(Plan(["a"], [("a", "a", 1)] * 60), ["a"] * 200), {"a": 200})

    def test_behind_by_position(self):
        with self.assertRaises(TypeError):
            behind(example(), [], told(0, 0, 0))

    def test_wrong_runs(self):
        wrong = [None, True, 0, "plan", "", {}, {"plan": 1}, example(), ["x"], ["plan", "x"], ["plan", None],
                 ["plan", ["do"]], ["plan", True], [0], [""], ("plan", {}), [["plan"]], [example()]]
        for run in wrong:
            self.assert_keeps(InvalidRun, "value", run, behind, example(), run)

    def test_wrong_beginnings(self):
        for begin in odd_values() + odd_integers() + odd_texts() + [told(1, True, 0), {"plan": 1, "do": 1}]:
            if begin is not None:
                self.assert_keeps(InvalidCounts, "value", begin, behind, example(), [], begin=begin)
        begin = told(0, 1, 0)
        self.assert_keeps(NotMoment, "value", begin, behind, example(), ["plan"], begin=begin)

    def test_order_of_what_is_wrong(self):
        self.assert_raises(InvalidPlan, "value", 1, behind, 1, 2, begin=3)
        self.assert_raises(InvalidRun, "value", ["check", 1], behind, example(), ["check", 1], begin=3)
        self.assert_raises(InvalidCounts, "value", 3, behind, example(), ["check"], begin=3)
        self.assert_raises(NotMoment, "value", told(0, 0, 1), behind, example(), ["check"], begin=told(0, 0, 1))


class TestRunTo(RaisingCase):
    def test_example(self):
        self.assertEqual(sorted(run_to(example(), told(2, 2, 1), begin=told(2, 1, 0))), ["check", "do"])

    def test_runs_between_all_moments(self):
        for plan in small_plans():
            moments = [counts for counts in all_counts(plan, 3) if keeps(plan, counts)]
            for begin, counts in itertools.product(moments, repeat=2):
                if all(begin[event] <= counts[event] for event in begin):
                    run = run_to(plan, counts, begin=begin)
                    self.assertEqual(run.__class__, list)
                    self.assertEqual(len(run), sum(counts.values()) - sum(begin.values()))
                    self.assertEqual(behind(plan, run, begin=begin), counts)
                else:
                    self.assert_keeps(NotBehind, "value", begin, run_to, plan, counts, begin=begin)

    def test_runs_from_the_start(self):
        run = run_to(plan=example(), counts=told(4, 3, 2))
        self.assertEqual(behind(example(), run), told(4, 3, 2))
        self.assertEqual(run_to(example(), told(4, 3, 2), begin=None), run)
        self.assertEqual(run_to(example(), told(4, 3, 2), begin=told(0, 0, 0)), run)
        self.assertEqual(run_to(example(), told(0, 0, 0)), [])
        self.assertEqual(run_to(example(), told(2, 1, 0), begin=told(2, 1, 0)), [])

    def test_one_event_more_at_the_beginning(self):
        begin = told(2, 0, 0)
        self.assert_keeps(NotBehind, "value", begin, run_to, example(), told(1, 1, 0), begin=begin)
        begin = told(1, 1, 1)
        self.assert_keeps(NotBehind, "value", begin, run_to, example(), told(1, 1, 0), begin=begin)

    def test_neither_moment_is_behind_the_other(self):
        plan = Plan(["a", "b"])
        one, other = {"a": 2, "b": 1}, {"a": 1, "b": 2}
        self.assert_keeps(NotBehind, "value", one, run_to, plan, other, begin=one)
        self.assert_keeps(NotBehind, "value", other, run_to, plan, one, begin=other)

    def test_two_hundred_events_and_one_more(self):
        plan = Plan(list("abcdefgh"), [(x, y, 1) for x, y in zip("abcdefgh" * 7, "bcdefgha" * 7)])
        counts = {event: 25 for event in plan.events()}
        run = run_to(plan, counts)
        self.assertEqual([len(run), behind(plan, run)], [200, counts])
        more = {**counts, "a": 26}
        self.assert_raises(TooLong, "total", 201, run_to, plan, more)
        step = {**{event: 0 for event in plan.events()}, "a": 1}
        self.assertEqual(behind(plan, run_to(plan, more, begin=step), begin=step), more)
        self.assertEqual(len(run_to(Plan(["a"]), {"a": 200})), 200)
        self.assert_raises(TooLong, "total", 201, run_to, Plan(["a"]), {"a": 201})

    def test_far_moments(self):
        great = 10 ** 30
        plan = Plan(["a", "b"], [("a", "b", 0), ("b", "a", 1)])
        begin, counts = {"a": great, "b": great}, {"a": great + 100, "b": great + 100}
        run = run_to(plan, counts, begin=begin)
        self.assertEqual(run, ["a", "b"] * 100)
        self.assert_raises(TooLong, "total", 2 * great, run_to, plan, begin)
        self.assert_raises(TooLong, "total", 201, run_to, plan, with_step(counts, "a", 1), begin=begin)

    def test_arguments_are_not_modified(self):
        begin, counts = told(1, 0, 0), told(3, 2, 1)
        run_to(example(), counts, begin=begin).clear()
        self.assertEqual([begin, counts], [told(1, 0, 0), told(3, 2, 1)])
        self.assertEqual(len(run_to(example(), counts, begin=begin)), 5)

    def test_begin_is_passed_by_name(self):
        with self.assertRaises(TypeError):
            run_to(example(), told(1, 1, 1), told(0, 0, 0))

    def test_wrong_arguments(self):
        plan, far = example(), told(3, 3, 0)
        for value in odd_values() + odd_integers() + odd_texts() + [told(1, True, 0), {"plan": 1, "do": 1}]:
            self.assert_keeps(InvalidCounts, "value", value, run_to, plan, value, begin=0)
            if value is not None:
                self.assert_keeps(InvalidCounts, "value", value, run_to, plan, told(0, 0, 0), begin=value)
        self.assert_keeps(NotMoment, "value", far, run_to, plan, far)
        self.assert_keeps(NotMoment, "value", far, run_to, plan, told(0, 0, 0), begin=far)

    def test_order_of_what_is_wrong(self):
        plan, far, start = Plan(["a", "b"], [("a", "b", 0)]), {"a": 0, "b": 1}, {"a": 0, "b": 0}
        self.assert_raises(InvalidPlan, "value", 1, run_to, 1, 2, begin=3)
        self.assert_raises(InvalidCounts, "value", 2, run_to, plan, 2, begin=3)
        self.assert_raises(NotMoment, "value", far, run_to, plan, far, begin=3)
        self.assert_raises(InvalidCounts, "value", 3, run_to, plan, start, begin=3)
        self.assert_raises(NotMoment, "value", far, run_to, plan, start, begin=far)
        begin = {"a": 1, "b": 1}
        self.assert_raises(NotBehind, "value", begin, run_to, plan, {"a": 500, "b": 0}, begin=begin)
        self.assert_raises(TooLong, "total", 500, run_to, plan, {"a": 500, "b": 0})


class TestHigherAndLower(RaisingCase):
    def test_counts_of_each_event(self):
        one, other = told(1, 7, 0), told(4, 2, 0)
        self.assertEqual(higher(example(), one, other), told(4, 7, 0))
        self.assertEqual(lower(plan=example(), one=one, other=other), told(1, 2, 0))
        self.assertEqual(higher(plan=example(), one=other, other=one), told(4, 7, 0))
        self.assertEqual([one, other], [told(1, 7, 0), told(4, 2, 0)])

    def test_new_dicts_are_returned(self):
        one = told(1, 1, 1)
        higher(example(), one, one)["plan"] = 9
        lower(example(), one, one)["plan"] = 9
        self.assertEqual(one, told(1, 1, 1))

    def test_they_need_no_moments(self):
        plan = Plan(["a", "b"], [("a", "b", 0)], limits={"a": 1})
        self.assertEqual(higher(plan, {"a": 0, "b": 9}, {"a": 5, "b": 3}), {"a": 5, "b": 9})
        self.assertEqual(lower(plan, {"a": 4, "b": 9}, {"a": 5, "b": 7}), {"a": 4, "b": 7})

    def test_of_two_moments_both_are_moments(self):
        for plan in small_plans():
            moments = [counts for counts in all_counts(plan, 3) if keeps(plan, counts)]
            for one, other in itertools.product(moments, repeat=2):
                self.assertTrue(is_moment(plan, higher(plan, one, other)))
                self.assertTrue(is_moment(plan, lower(plan, one, other)))

    def test_wrong_arguments(self):
        good = told(1, 1, 1)
        for call in [higher, lower]:
            self.assert_raises(InvalidPlan, "value", 1, call, 1, 2, 3)
            for value in odd_values() + odd_integers() + odd_texts() + [told(1, True, 0), told(1, 1, -1)]:
                self.assert_keeps(InvalidCounts, "value", value, call, example(), value, 3)
                self.assert_keeps(InvalidCounts, "value", value, call, example(), good, value)


if __name__ == "__main__":
    unittest.main()

"""Promises [51], [52], [53] and [54]: plans held against one another."""

import itertools
import unittest

from by_hand import all_counts, all_moments, far_plans, greatest_count, greatest_lead, keeps, like_plans, small_plans
from odd_values import no_names, odd_integers, odd_texts, odd_values
from pileups.errors import Duplicate, InvalidNames, InvalidPlan, UnknownEvent, UnlikeEvents
from pileups.likeness import alike, fewest, needless, seen, spanned, within
from pileups.moments import is_moment
from pileups.plans import Plan
from pileups.tables import Table
from raising import RaisingCase

# More than any finite lead or count of the like plans, and than any count of a smallest moment that they do not share.
FAR = 7


def example():
    return Plan(["load", "test", "sell"],
                [("load", "test", 0), ("test", "sell", 1), ("sell", "load", 3), ("load", "sell", 2)])


def total(counts):
    return sum(counts.values())


def no_plans():
    return [value for value in no_names() if not isinstance(value, Plan)] + [Table(Plan(["a"])), "events a"]


def smallest_alone(one, other, most):
    """Return the least sum of a moment of one plan alone, or None."""
    sums = [total(counts) for counts in all_moments(one, most) if not keeps(other, counts)]
    return min(sums) if sums else None


def follows(plan, ties, tie):
    """Return True if a tie follows from others, told by all moments up to a number."""
    others = Plan(plan.events(), ties, limits=plan.limits())
    earlier, later, lag = tie
    return all(counts[later] - counts[earlier] <= lag for counts in all_moments(others, 5))


class TestWithin(RaisingCase):
    def test_example(self):
        plan, other = example(), example().limited("test", 2)
        self.assertIs(within(other, plan), None)
        self.assertEqual(within(plan, other), {"load": 3, "test": 3, "sell": 0})
        self.assertEqual(alike(other, plan), ({"load": 3, "test": 3, "sell": 0}, 1))
        self.assertEqual(alike(plan, other), ({"load": 3, "test": 3, "sell": 0}, 0))

    def test_within_by_the_definition(self):
        for one, other in itertools.product(like_plans(), repeat=2):
            found, wanted = within(one, other), smallest_alone(one, other, 4)
            if wanted is None:
                self.assertIs(found, None, (str(one), str(other)))
            else:
                self.assertEqual([keeps(one, found), keeps(other, found), total(found)], [True, False, wanted])

    def test_alike_by_the_definition(self):
        for one, other in itertools.product(like_plans()[:25], repeat=2):
            alone = [smallest_alone(one, other, 4), smallest_alone(other, one, 4)]
            sums = [number for number in alone if number is not None]
            found = alike(one, other)
            if not sums:
                self.assertIs(found, None, (str(one), str(other)))
            else:
                self.assertIsInstance(found, tuple)
                counts, which = found
                self.assertIn(which, [0, 1])
                self.assertIsInstance(which, int)
                self.assertNotIsInstance(which, bool)
                self.assertEqual([keeps(one, counts), keeps(other, counts)], [which == 0, which == 1])
                self.assertEqual(total(counts), min(sums))

    def test_the_smaller_of_two_moments(self):
        one = Plan(["a", "b"], [("a", "b", 7)], limits={"a": 4})
        other = Plan(["a", "b"], [("a", "b", 5)], limits={"a": 9})
        self.assertEqual(alike(one, other), ({"a": 5, "b": 0}, 1))
        self.assertEqual(alike(other, one), ({"a": 5, "b": 0}, 0))
        self.assertEqual([within(one, other), within(other, one)], [{"a": 0, "b": 6}, {"a": 5, "b": 0}])

    def test_the_same_moments_told_otherwise(self):
        one = Plan(["a", "b"], [("a", "b", 0), ("b", "a", 2)], limits={"a": 4})
        other = Plan(["a", "b"], [("b", "a", 2), ("a", "a", 1), ("a", "b", 0)], limits={"a": 4, "b": 4})
        self.assertEqual([within(one, other), within(other, one), alike(one, other)], [None, None, None])

    def test_great_numbers(self):
        great = 10 ** 30 - 1
        one = Plan(["a", "b"], [("a", "b", great)], limits={"a": great})
        self.assertEqual(within(one, one.limited("b", 2 * great - 1)), {"a": great, "b": 2 * great})
        self.assertIs(within(one, one.limited("b", 2 * great)), None)
        self.assertEqual(alike(one.limited("b", 2 * great - 1), one)[1], 1)

    def test_equal_plans_have_equal_answers(self):
        plan = Plan(["a", "b", "c"])
        one, other = plan.limited("a", 1).limited("b", 1), plan.limited("b", 1).limited("a", 1)
        self.assertEqual(one, other)
        self.assertEqual(within(plan, one), within(plan, other))
        self.assertEqual(alike(plan, one), alike(plan, other))

    def test_new_counts_are_returned(self):
        plan, other = example(), example().limited("test", 2)
        within(plan, other).clear()
        alike(plan, other)[0]["load"] = 9
        self.assertEqual(within(plan, other), {"load": 3, "test": 3, "sell": 0})
        self.assertEqual(alike(plan, other)[0], {"load": 3, "test": 3, "sell": 0})

    def test_arguments_by_name(self):
        plan, other = example(), example().limited("test", 2)
        self.assertEqual(within(other=other, one=plan), within(plan, other))
        self.assertEqual(alike(other=other, one=plan), alike(plan, other))
        self.assertEqual(spanned(other=other, one=plan), spanned(plan, other))

    def test_wrong_arguments(self):
        for call in [within, alike, spanned]:
            for value in no_plans():
                self.assert_keeps(InvalidPlan, "value", value, call, value, 7)
                self.assert_keeps(InvalidPlan, "value", value, call, example(), value)
            one = Plan(["a", "b"])
            for events in [["b", "a"], ["a"], ["a", "b", "c"], ["a", "c"]]:
                self.assert_raises(UnlikeEvents, "members", events, call, one, Plan(events))


class TestNeedlessTies(RaisingCase):
    def test_example(self):
        self.assertEqual([needless(example()), fewest(example())], [[3], [0, 1, 2]])

    def test_needless_by_the_definition(self):
        for plan in small_plans() + like_plans():
            ties = plan.ties()
            wanted = [index for index in range(len(ties))
                      if follows(plan, ties[:index] + ties[index + 1:], ties[index])]
            self.assertEqual(needless(plan), wanted, str(plan))

    def test_fewest_by_the_definition(self):
        for plan in small_plans() + like_plans():
            ties, stay = plan.ties(), list(range(len(plan.ties())))
            for index in range(len(ties) - 1, -1, -1):
                others = [ties[place] for place in stay if place != index]
                if follows(plan, others, ties[index]):
                    stay.remove(index)
            self.assertEqual(fewest(plan), stay, str(plan))

    def test_what_stays_says_the_same(self):
        for plan in like_plans() + far_plans():
            stay = fewest(plan)
            rest = Plan(plan.events(), [plan.ties()[index] for index in stay], limits=plan.limits())
            self.assertEqual([needless(rest), alike(plan, rest), stay], [[], None, sorted(stay)])

    def test_ties_that_stand_twice(self):
        plan = Plan(["a", "b"], [("a", "b", 1)] * 60)
        self.assertEqual([needless(plan), fewest(plan)], [list(range(60)), [0]])

    def test_ties_that_follow_from_one_another(self):
        ties = [("a", "b", 1), ("a", "c", 1), ("b", "c", 0), ("c", "b", 1), ("a", "b", 2), ("a", "a", 1)]
        plan = Plan(["a", "b", "c"], ties)
        self.assertEqual([needless(plan), fewest(plan)], [[1, 4, 5], [0, 2, 3]])

    def test_limits_make_ties_needless(self):
        plan = Plan(["a", "b"], [("a", "b", 3), ("b", "a", 3)], limits={"b": 3})
        self.assertEqual([needless(plan), fewest(plan)], [[0], [1]])
        self.assertEqual(needless(plan.limited("b", 4)), [])

    def test_no_ties(self):
        self.assertEqual([needless(Plan(["a"])), fewest(plan=Plan(["a"], limits={"a": 0}))], [[], []])

    def test_new_lists_are_returned(self):
        plan = example()
        needless(plan).append(9)
        fewest(plan).clear()
        self.assertEqual([needless(plan), fewest(plan=plan), plan], [[3], [0, 1, 2], example()])

    def test_wrong_arguments(self):
        for call in [needless, fewest]:
            for value in no_plans():
                self.assert_keeps(InvalidPlan, "value", value, call, value)


class TestSeen(RaisingCase):
    def test_example(self):
        self.assertEqual(str(seen(example(), ["sell", "load"])), "events load sell; tie load sell 1; tie sell load 3")

    def test_seen_by_the_definition(self):
        for plan in small_plans() + like_plans():
            for many in range(1, len(plan) + 1):
                for names in itertools.permutations(plan.events(), many):
                    found = seen(plan, list(names))
                    self.assertIsInstance(found, Plan)
                    self.assertEqual(found.events(), [event for event in plan.events() if event in names])
                    self.assertEqual(needless(found), [])
                    left = [{event: counts[event] for event in found.events()} for counts in all_moments(plan, 6)]
                    for counts in all_counts(found, 3):
                        self.assertIs(keeps(found, counts), counts in left, (str(plan), names))

    def test_all_events(self):
        for plan in like_plans() + far_plans():
            found = seen(plan, plan.events())
            self.assertEqual([alike(plan, found), needless(found)], [None, []])

    def test_moments_of_far_plans(self):
        for plan in far_plans():
            names = plan.events()[::2]
            found = seen(plan, tuple(names))
            table, told = Table(plan), Table(found)
            self.assertEqual([found.events(), needless(found)], [names, []])
            for earlier, later in itertools.product(names, repeat=2):
                self.assertEqual(told.lead(earlier, later), table.lead(earlier, later))
            self.assertEqual([told.most(event) for event in names], [table.most(event) for event in names])

    def test_events_that_never_come(self):
        plan = Plan(["a", "b", "c"], limits={"a": 0, "b": 0, "c": 0})
        found = seen(plan, ["c", "a"])
        self.assertEqual([found.events(), found.limits(), found.ties()], [["a", "c"], {"a": 0, "c": 0}, []])

    def test_a_hidden_limit_is_kept(self):
        plan = Plan(["a", "b", "c"], [("a", "b", 2), ("b", "c", 1)], limits={"a": 4})
        self.assertEqual(Table(seen(plan, ["c"])).most("c"), 7)
        self.assertIs(Table(seen(plan.limited("a", None), ["c"])).most("c"), None)

    def test_arguments_are_not_modified(self):
        plan, names = example(), ["sell", "load"]
        seen(names=names, plan=plan)
        self.assertEqual([plan, names], [example(), ["sell", "load"]])
        self.assertEqual(seen(plan, ("sell", "load")), seen(plan, names))

    def test_wrong_plans(self):
        for value in no_plans():
            self.assert_keeps(InvalidPlan, "value", value, seen, value, 7)

    def test_wrong_lists_of_names(self):
        lists = [value for value in odd_values() if isinstance(value, (list, tuple)) and value]
        for value in odd_values() + odd_integers() + odd_texts() + ["load", {"load": 1}]:
            if value not in lists:
                self.assert_keeps(InvalidNames, "value", value, seen, example(), value)

    def test_wrong_names(self):
        for value in no_names() + ["a", "loads"]:
            self.assert_keeps(UnknownEvent, "name", value, seen, example(), [value])
            self.assert_keeps(UnknownEvent, "name", value, seen, example(), ["load", value, "load"])
        again = "".join(["lo", "ad"])
        self.assert_keeps(Duplicate, "name", again, seen, example(), ["load", "sell", again, "x"])
        self.assert_raises(UnknownEvent, "name", "x", seen, example(), ["load", "sell", "x", "load"])


class TestSpanned(RaisingCase):
    def test_example(self):
        other = Plan(["a", "b"], [("a", "b", 2), ("b", "a", 1)], limits={"b": 9})
        self.assertEqual(str(spanned(Plan(["a", "b"], [("a", "b", 0)]), other)), "events a b; tie a b 2")

    def test_spanned_by_the_definition(self):
        plans = like_plans()
        for one, other in zip(plans, plans[1:] + plans[:1]):
            found = spanned(one, other)
            self.assertEqual([found.events(), needless(found)], [one.events(), []])
            for earlier, later in itertools.product(found.events(), repeat=2):
                leads = [greatest_lead(plan, earlier, later, FAR) for plan in [one, other]]
                wanted = None if None in leads else max(leads)
                self.assertEqual(greatest_lead(found, earlier, later, FAR), wanted, (str(one), str(other)))
            for event in found.events():
                counts = [greatest_count(plan, event, FAR) for plan in [one, other]]
                self.assertEqual(greatest_count(found, event, FAR), None if None in counts else max(counts))

    def test_all_moments_of_both_and_no_more_than_any_such_plan(self):
        plans = like_plans()[:12]
        for one, other in itertools.combinations(plans, 2):
            found = spanned(one, other)
            self.assertEqual([within(one, found), within(other, found)], [None, None])
            for plan in plans:
                if within(one, plan) is None and within(other, plan) is None:
                    self.assertIs(within(found, plan), None)

    def test_a_plan_and_itself(self):
        for plan in like_plans() + far_plans():
            self.assertIs(alike(plan, spanned(plan, plan)), None)

    def test_great_numbers(self):
        great = 10 ** 30 - 1
        one = Plan(["a", "b"], [("a", "b", great), ("b", "a", 0)], limits={"a": great})
        found = spanned(one, one.limited("a", 3))
        self.assertIs(alike(found, one), None)
        self.assertTrue(is_moment(found, {"a": great, "b": 2 * great}))

    def test_events_that_never_come_in_one_plan(self):
        still = Plan(["a", "b"], limits={"a": 0, "b": 0})
        self.assertIs(alike(spanned(still, still), still), None)
        ring = Plan(["a", "b"], [("a", "b", 0), ("b", "a", 1)])
        self.assertIs(alike(spanned(still, ring), ring), None)
        self.assertIs(alike(spanned(ring, still), ring), None)


if __name__ == "__main__":
    unittest.main()

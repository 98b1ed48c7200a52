"""Promises [91], [92] and [93]: sightings and sure orders."""

import itertools
import random
import unittest

from bound_cases import no_plans
from by_hand import all_moments, far_plans, is_least, keeps, like_plans, small_plans
from odd_values import no_counts, no_integers, no_names, odd_integers, odd_texts, odd_values
from pileups.errors import InvalidBounds, InvalidInteger, InvalidPlan, NotPossible, UnknownEvent
from pileups.plans import Plan
from pileups.sightings import Sighting, is_sure, otherwise
from pileups.tables import Table
from raising import RaisingCase

GREAT = 10 ** 30 - 1
# More than any finite count or lead of the plans and bounds that are gone through.
FAR = 9


def example():
    return Plan(["plan", "do", "check"], [("plan", "do", 0), ("do", "check", 0), ("check", "plan", 2)])


def some_ends(rng, plan, most):
    """Return random bounds of counts, or None."""
    if rng.random() < 0.2:
        return None
    return {event: rng.randint(0, most) for event in plan.events() if rng.random() < 0.5}


def sighted(moments, low, high):
    """Return the moments within bounds, told in the words of the definition."""
    low, high = low or {}, high or {}
    return [counts for counts in moments if all(counts[event] >= low[event] for event in low)
            and all(counts[event] <= high[event] for event in high)]


def greatest_of(numbers, far):
    """Return the greatest number, or None if it is as great as what is gone through lets it be."""
    return None if max(numbers) >= far else max(numbers)


class TestSighting(RaisingCase):
    def test_example(self):
        told = Sighting(example(), low={"do": 3}, high={"check": 2})
        found = [told.least("plan"), told.greatest("plan"), told.least("check"), told.lead("check", "do"),
                 told.is_possible()]
        self.assertEqual(found, [3, 4, 1, 2, True])
        self.assertIs(told.is_possible(), True)
        self.assertEqual([told.greatest_counts() == {"plan": 4, "do": 4, "check": 2},
                          told.narrowed("plan", high=2).is_possible()], [True, False])
        self.assertIs(told.narrowed("plan", high=2).is_possible(), False)

    def assert_sighting(self, plan, told, moments):
        """A sighting is that of these moments, which are all up to FAR for each event."""
        self.assertIs(told.is_possible(), len(moments) > 0)
        if not moments:
            self.assert_not_possible(plan, told)
            return
        events = plan.events()
        ways = [greatest_of([counts[event] for counts in moments], FAR) for event in events]
        self.assertEqual([told.least(event) for event in events],
                         [min(counts[event] for counts in moments) for event in events])
        self.assertEqual([told.greatest(event) for event in events], ways)
        self.assertTrue(is_least(told.least_counts(), moments))
        if None in ways:
            self.assertIs(told.greatest_counts(), None)
        else:
            self.assertEqual(told.greatest_counts(), dict(zip(events, ways)))
            self.assertIn(told.greatest_counts(), moments)
        for earlier, later in itertools.product(events, repeat=2):
            wanted = max(counts[later] - counts[earlier] for counts in moments)
            found = told.lead(earlier, later)
            if found is None:
                # No lead stays within what is gone through: the later event can come up to FAR times, the earlier one
                # not more often than at a moment near the beginning.
                self.assertIs(told.greatest(later), None)
                self.assertGreaterEqual(wanted, FAR - 5)
            else:
                self.assertEqual(found, wanted)

    def assert_not_possible(self, plan, told):
        event = plan.events()[0]
        for call in [told.least_counts, told.greatest_counts, lambda: told.least(event), lambda: told.greatest(event),
                     lambda: told.lead(event, event)]:
            with self.assertRaises(NotPossible) as caught:
                call()
            self.assertEqual(caught.exception.__class__, NotPossible)

    def test_by_the_definition(self):
        rng, possible = random.Random(91), []
        for plan in small_plans() + like_plans():
            moments = all_moments(plan, FAR)
            for row in range(6):
                low, high = some_ends(rng, plan, 3), some_ends(rng, plan, 4)
                left = sighted(moments, low, high)
                self.assert_sighting(plan, Sighting(plan, low=low, high=high), left)
                possible.append(len(left) > 0)
        self.assertGreater(min(possible.count(True), possible.count(False)), 30)

    def test_no_bounds_tell_what_the_table_tells(self):
        for plan in small_plans() + far_plans():
            for told in [Sighting(plan), Sighting(plan, low={}, high={}), Sighting(plan, high=None)]:
                table, events = Table(plan), plan.events()
                self.assertEqual([told.least(event) for event in events], [0] * len(events))
                self.assertEqual([told.greatest(event) for event in events], [table.most(event) for event in events])
                for earlier, later in itertools.product(events, repeat=2):
                    self.assertEqual(told.lead(earlier, later), table.lead(earlier, later))

    def test_great_numbers(self):
        rng = random.Random(92)
        for plan in far_plans():
            table, events = Table(plan), plan.events()
            event, count = rng.choice(events), rng.randint(0, GREAT)
            told = Sighting(plan, low={event: count})
            wanted = table.least(event, count)
            self.assertIs(told.is_possible(), wanted is not None)
            if wanted is not None:
                self.assertEqual([told.least_counts(), told.least(event)], [wanted, count])
            held = Sighting(plan, high={event: count})
            self.assertEqual([held.is_possible(), set(held.least_counts().values())], [True, {0}])
            top = plan.limited(event, count if plan.limit(event) is None else min(count, plan.limit(event)))
            self.assertEqual([held.greatest(name) for name in events], [Table(top).most(name) for name in events])

    def test_leads_below_0(self):
        plan = Plan(["a", "b"])
        told = Sighting(plan, low={"a": GREAT}, high={"b": 7})
        self.assertEqual([told.lead("a", "b"), told.lead("b", "a"), told.lead("a", "a")], [7 - GREAT, None, 0])
        self.assertEqual([told.greatest("a"), told.greatest("b"), told.greatest_counts()], [None, 7, None])

    def test_narrowed_by_the_definition(self):
        rng = random.Random(93)
        for plan in small_plans() + like_plans()[:20]:
            moments = all_moments(plan, FAR)
            for row in range(4):
                low, high = some_ends(rng, plan, 2), some_ends(rng, plan, 4)
                first = Sighting(plan, low=low, high=high)
                event = rng.choice(plan.events())
                floor, roof = rng.choice([None, 0, 1, 3]), rng.choice([None, 0, 2, 3])
                told = first.narrowed(event, low=floor, high=roof)
                self.assertIsInstance(told, Sighting)
                ends = [{} if end is None else {event: end} for end in [floor, roof]]
                self.assert_sighting(plan, told, sighted(sighted(moments, low, high), *ends))
                self.assert_sighting(plan, first, sighted(moments, low, high))

    def test_narrowed_keeps_the_narrower_bound(self):
        told = Sighting(Plan(["a"]), low={"a": 3}, high={"a": 7})
        self.assertEqual([told.narrowed("a", low=2, high=9).least("a"), told.narrowed("a", low=2, high=9).greatest("a"),
                          told.narrowed("a", low=5).least("a"), told.narrowed(event="a", high=4).greatest("a"),
                          told.narrowed("a").greatest("a")], [3, 7, 5, 4, 7])
        self.assertEqual([told.least("a"), told.greatest("a")], [3, 7])
        self.assertIs(told.narrowed("a", low=8).is_possible(), False)
        self.assertIs(told.narrowed("a", low=8).narrowed("a", high=9).is_possible(), False)

    def test_what_is_handed_in_and_out_is_copied(self):
        low, high = {"do": 3}, {"check": 2}
        told = Sighting(example(), high=high, low=low)
        low["do"] = 9
        high.clear()
        told.least_counts()["do"] = 9
        told.greatest_counts().clear()
        self.assertEqual(told.least_counts(), {"plan": 3, "do": 3, "check": 1})
        self.assertEqual(told.greatest_counts(), {"plan": 4, "do": 4, "check": 2})
        self.assertEqual(told.narrowed("plan", low=4).least_counts(), {"plan": 4, "do": 3, "check": 2})
        self.assertIsInstance(repr(told), str)

    def test_wrong_bounds(self):
        plan = Plan(["a", "b"])
        for value in no_plans():
            self.assert_keeps(InvalidPlan, "value", value, Sighting, value, low=7, high=7)
        wrong = odd_integers() + odd_texts() + [True, False, [], (), ["a"], [("a", 1)], {"c": 1}, {0: 0}, {"": 1}, plan]
        wrong.extend([{"a": value} for value in no_counts()] + [{"a": 1, "b": -1}, {"a": 1, "x": 1}])
        for value in wrong:
            self.assert_keeps(InvalidBounds, "value", value, Sighting, plan, low=value, high=7)
            self.assert_keeps(InvalidBounds, "value", value, Sighting, plan, low={"a": 1}, high=value)
        self.assertRaises(TypeError, Sighting, plan, {}, {})

    def test_wrong_arguments_of_methods(self):
        for told in [Sighting(example()), Sighting(example(), low={"do": 1}, high={"plan": 0})]:
            for value in no_names() + ["x"]:
                for call in [told.least, told.greatest, lambda *given: told.lead(*given, "x"),
                             lambda *given: told.lead("do", *given), lambda *given: told.narrowed(*given, low="x")]:
                    self.assert_keeps(UnknownEvent, "name", value, call, value)
            for value in no_counts():
                if value is not None:
                    self.assert_keeps(InvalidInteger, "value", value, told.narrowed, "do", low=value, high="x")
                    self.assert_keeps(InvalidInteger, "value", value, told.narrowed, "do", low=2, high=value)
        self.assertEqual(Sighting(example()).lead(later="do", earlier="check"), 2)


class TestSureOrders(RaisingCase):
    def test_example(self):
        plan = example()
        self.assertEqual([is_sure(plan, "check", 1, "plan", 3), is_sure(plan, "check", 1, "plan", 2),
                          otherwise(plan, "check", 1, "do", 2)], [True, False, {"plan": 2, "do": 2, "check": 0}])

    def test_by_the_definition(self):
        kinds = []
        for plan in small_plans() + like_plans()[:25]:
            moments = all_moments(plan, 6)
            for earlier, later in itertools.product(plan.events(), repeat=2):
                for k, j in itertools.product(range(1, 4), repeat=2):
                    found = otherwise(plan, earlier, k, later, j)
                    shown = [counts for counts in moments if counts[later] >= j and counts[earlier] < k]
                    self.assertIs(is_sure(plan, earlier, k, later, j), not shown)
                    kinds.append(not shown)
                    if shown:
                        self.assertTrue(is_least(found, shown), (str(plan), earlier, k, later, j))
                    else:
                        self.assertIs(found, None)
        self.assertGreater(min(kinds.count(True), kinds.count(False)), 100)

    def test_by_the_runs(self):
        for plan in small_plans():
            runs = [[]]
            for step in range(4):
                runs.extend([[*run, event] for run in runs if len(run) == step for event in plan.events()
                             if keeps(plan, {name: [*run, event].count(name) for name in plan.events()})])
            for earlier, later in itertools.product(plan.events(), repeat=2):
                for k, j in itertools.product(range(1, 3), repeat=2):
                    parts = [run for run in runs if run and run[-1] == later and run.count(later) == j]
                    if any(run.count(earlier) < k for run in parts):
                        self.assertIs(is_sure(plan, earlier, k, later, j), False)
                    elif sum((otherwise(plan, earlier, k, later, j) or {"a": 9}).values()) <= 4:
                        self.fail((str(plan), earlier, k, later, j))

    def test_what_never_comes_is_sure(self):
        plan = Plan(["a", "b"], limits={"b": 2})
        self.assertEqual([is_sure(plan, "a", 1, "b", 3), is_sure(plan, "a", 1, "b", 2)], [True, False])
        self.assertEqual([otherwise(plan, "a", 1, "b", 3), otherwise(plan, "a", 9, "b", 2)], [None, {"a": 0, "b": 2}])

    def test_one_event(self):
        plan = Plan(["a"])
        self.assertEqual([is_sure(plan, "a", 2, "a", 2), is_sure(plan, "a", 2, "a", 3), is_sure(plan, "a", 3, "a", 2)],
                         [True, True, False])

    def test_great_numbers(self):
        plan = Plan(["a", "b"], [("a", "b", GREAT)])
        self.assertEqual([is_sure(plan, "a", 2, "b", GREAT + 1), is_sure(plan, "a", 1, "b", GREAT + 1)], [False, True])
        self.assertEqual(otherwise(plan, "a", GREAT, "b", GREAT + 7), {"a": 7, "b": GREAT + 7})

    def test_arguments_by_name_and_new_results(self):
        plan = example()
        otherwise(plan, "check", 1, "do", 2).clear()
        self.assertEqual(otherwise(j=2, later="do", k=1, earlier="check", plan=plan), {"plan": 2, "do": 2, "check": 0})
        self.assertIs(is_sure(j=2, later="do", k=1, earlier="check", plan=plan), False)

    def test_wrong_arguments(self):
        for call in [is_sure, otherwise]:
            for value in no_plans():
                self.assert_keeps(InvalidPlan, "value", value, call, value, "x", "x", "x", "x")
            for value in no_names() + ["x"]:
                self.assert_keeps(UnknownEvent, "name", value, call, example(), value, "x", "x", "x")
                self.assert_keeps(UnknownEvent, "name", value, call, example(), "do", 1, value, "x")
            for value in no_integers() + [0, -1, -GREAT]:
                self.assert_keeps(InvalidInteger, "value", value, call, example(), "do", value, "x", "x")
                self.assert_keeps(InvalidInteger, "value", value, call, example(), "do", 1, "plan", value)


if __name__ == "__main__":
    unittest.main()

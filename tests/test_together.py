"""Promises [141], [142] and [143]: plans together."""

import itertools
import random
import unittest

from bound_cases import no_plans
from by_hand import all_counts, all_moments, far_plans, keeps, like_plans, small_plans
from pileups.errors import InvalidPlan, Ring, TooMany
from pileups.likeness import alike
from pileups.plans import Plan
from pileups.tables import Table
from pileups.together import composed, held_back, renaming
from raising import RaisingCase

GREAT = 10 ** 30 - 1


def baker():
    return Plan(["order", "bake"], [("order", "bake", 0)])


def eater():
    return Plan(["bake", "eat"], [("bake", "eat", 0), ("eat", "bake", 2)], limits={"eat": 9})


def part_of(plan, counts):
    return {event: counts[event] for event in plan.events()}


def renamed(plan, names):
    """Return a plan whose events have other names."""
    ties = [(names[earlier], names[later], lag) for earlier, later, lag in plan.ties()]
    return Plan([names[event] for event in plan.events()], ties,
                limits={names[event]: limit for event, limit in plan.limits().items()})


def pairs_of_plans():
    """Return pairs of small plans, some of which share events."""
    rng, rows = random.Random(141), []
    plans = small_plans() + rng.sample(like_plans(), 12)
    for row in range(120):
        one, other = rng.choice(plans), rng.choice(plans)
        if rng.random() < 0.5:
            other = renamed(other, dict(zip(other.events(), rng.sample(["a", "b", "c", "x"], len(other)))))
        try:
            composed(one, other)
        except Ring:
            continue
        if len(composed(one, other)) < 5:
            rows.append((one, other))
    return rows


class TestComposed(RaisingCase):
    def test_example(self):
        found = [str(composed(baker(), eater())), held_back(eater(), baker()),
                 held_back(baker(), eater()) == {"order": 12, "bake": 12}]
        self.assertEqual(found, ["events order bake eat; tie order bake 0; tie bake eat 0; tie eat bake 2; limit eat 9",
                                 None, True])

    def test_by_the_definition(self):
        for one, other in pairs_of_plans():
            plan = composed(one, other)
            self.assertEqual(plan.events(), one.events() + [event for event in other.events() if event not in one])
            self.assertEqual(plan.ties(), one.ties() + other.ties())
            for counts in all_counts(plan, 3):
                both = keeps(one, part_of(one, counts)) and keeps(other, part_of(other, counts))
                self.assertIs(keeps(plan, counts), both)

    def test_lesser_limits(self):
        one = Plan(["a", "b", "c"], limits={"a": 3, "b": 5})
        other = Plan(["d", "b", "a"], limits={"a": 4, "b": 2, "d": 0})
        self.assertEqual(composed(one, other), Plan(["a", "b", "c", "d"], limits={"a": 3, "b": 2, "d": 0}))
        self.assertEqual(composed(other, one), Plan(["d", "b", "a", "c"], limits={"a": 3, "b": 2, "d": 0}))
        self.assertEqual([one.limits(), other.limits()], [{"a": 3, "b": 5}, {"a": 4, "b": 2, "d": 0}])

    def test_like_both_if_the_events_are_the_same(self):
        plans = like_plans()
        for one, other in zip(plans, plans[1:]):
            try:
                wanted = one.both(other)
            except Ring:
                continue
            self.assertEqual(composed(other=other, one=one), wanted)

    def test_what_is_refused(self):
        for call in [composed, held_back]:
            for value in no_plans():
                self.assert_keeps(InvalidPlan, "value", value, call, value, 7)
                self.assert_keeps(InvalidPlan, "value", value, call, baker(), value)
            one, other = Plan(list("abcde"), [("a", "b", 0)] * 60), Plan(list("efghi"), [("e", "f", 0)] * 60)
            self.assert_raises(TooMany, "bound", 8, call, one, other)
            other = Plan(list("badc"), [("b", "a", 0)])
            self.assert_raises(TooMany, "bound", 60, call, one, other)
            self.assert_raises(Ring, "members", ["a", "b"], call, Plan(list("abcde"), [("a", "b", 0)]), other)
            self.assert_raises(Ring, "members", ["x", "a", "c"], call,
                               Plan(["x", "a", "b"], [("x", "a", 0)]),
                               Plan(["c", "x", "a"], [("a", "c", 0), ("c", "x", 0)]))
        self.assertEqual(len(composed(Plan(list("abcd"), [("a", "b", 1)] * 30),
                                      Plan(list("efgh"), [("e", "f", 1)] * 30))), 8)


class TestHeldBack(RaisingCase):
    def test_by_the_definition(self):
        kinds = []
        for one, other in pairs_of_plans():
            found = held_back(one, other)
            kinds.append(found is None)
            left = [part_of(one, counts) for counts in all_moments(composed(one, other), 6)]
            lost = [counts for counts in all_moments(one, 3) if counts not in left]
            if found is None:
                self.assertEqual(lost, [])
            else:
                self.assertTrue(keeps(one, found))
                self.assertEqual(sorted(found), sorted(one.events()))
                if max(found.values()) < 5:
                    self.assertNotIn(found, left)
                if lost:
                    self.assertLessEqual(sum(found.values()), min(sum(counts.values()) for counts in lost))
                self.assertFalse([counts for counts in lost if sum(counts.values()) < sum(found.values())])
        self.assertGreater(min(kinds.count(True), kinds.count(False)), 20)

    def test_great_numbers(self):
        one = Plan(["a", "b"], [("a", "b", GREAT)])
        other = Plan(["b", "c"], [("c", "b", GREAT)], limits={"c": 5})
        self.assertEqual(held_back(one, other), {"a": 6, "b": GREAT + 6})
        self.assertIs(held_back(other, one), None)
        self.assertIs(held_back(one.limited("b", GREAT + 5), other), None)

    def test_plans_without_common_events(self):
        one, other = Plan(["a"]), Plan(["b"], limits={"b": 0})
        self.assertEqual([held_back(one, other), held_back(other=one, one=other)], [None, None])

    def test_new_results(self):
        one, other = baker(), eater()
        held_back(one, other).clear()
        self.assertEqual([held_back(one, other), one, other], [{"order": 12, "bake": 12}, baker(), eater()])


class TestRenaming(RaisingCase):
    def test_example(self):
        other = Plan(["load", "sell"], [("sell", "load", 0), ("sell", "load", 5)])
        self.assertEqual(renaming(baker(), other), {"order": "sell", "bake": "load"})

    def is_right(self, one, other, names, most):
        return all(keeps(one, counts) == keeps(other, {names[event]: counts[event] for event in counts})
                   for counts in all_counts(one, most))

    def test_by_the_definition(self):
        kinds = []
        plans = small_plans() + random.Random(143).sample(like_plans(), 22)
        for one, other in itertools.product(plans, repeat=2):
            found = renaming(one, other)
            kinds.append(found is None)
            if found is not None:
                self.assertEqual([sorted(found), sorted(found.values())],
                                 [sorted(one.events()), sorted(other.events())])
                self.assertTrue(self.is_right(one, other, found, 4))
            elif len(one) == len(other):
                for row in itertools.permutations(other.events()):
                    self.assertFalse(self.is_right(one, other, dict(zip(one.events(), row)), 4))
        self.assertGreater(min(kinds.count(True), kinds.count(False)), 30)

    def test_far_plans(self):
        rng = random.Random(144)
        for plan in far_plans():
            names = [event + "x" for event in plan.events()]
            rng.shuffle(names)
            other = renamed(plan, dict(zip(plan.events(), names)))
            ties, events = other.ties(), other.events()
            rng.shuffle(ties)
            rng.shuffle(events)
            other = Plan(events, ties, limits=other.limits())
            found = renaming(plan, other)
            self.assertEqual(sorted(found.values()), sorted(names))
            table, told = Table(plan), Table(other)
            for earlier, later in itertools.product(plan.events(), repeat=2):
                self.assertEqual(table.lead(earlier, later), told.lead(found[earlier], found[later]))
            self.assertEqual([table.most(event) for event in plan.events()],
                             [told.most(found[event]) for event in plan.events()])
            most = Table(plan).most(plan.events()[0])
            tighter = plan.limited(plan.events()[0], 10 ** 40 if most is None else most - 1) if most != 0 else None
            if tighter is not None:
                self.assertIs(renaming(tighter, other), None)

    def test_like_events(self):
        events, others = list("abcdefgh"), list("stuvwxyz")
        free = Plan(others)
        self.assertEqual(sorted(renaming(Plan(events), free).items()), list(zip(events, others)))
        self.assertIs(renaming(Plan(events, limits={"h": 2}), free), None)
        two = [(a, b, 1) for ring in [others[:4], others[4:]] for a, b in zip(ring, ring[1:] + ring[:1])]
        one = [(a, b, 1) for a, b in zip(events, events[1:] + events[:1])]
        self.assertIs(renaming(Plan(events, one), Plan(others, two)), None)
        self.assertIsNot(renaming(Plan(others, two[::-1]), Plan(others, two)), None)
        crossed = [("a", "b", 3), ("b", "a", 3), ("c", "d", 3), ("d", "c", 3), ("e", "f", 3), ("f", "e", 3),
                   ("g", "h", 3),
                   ("h", "g", 3)]
        self.assertIsNot(renaming(Plan(list("aceghfdb"), crossed), Plan(events, crossed[::-1])), None)
        ringed = crossed[:6] + [("g", "h", 3), ("h", "e", 3)]
        self.assertIs(renaming(Plan(events, ringed), Plan(events, crossed)), None)

    def test_like_events_in_unlike_plans(self):
        events = list("abcdefgh")
        cube = [(place, place ^ bit) for place in range(8) for bit in [1, 2, 4]]
        band = [(place, (place + step) & 7) for place in range(8) for step in [1, 4, 7]]

        def plan_of(pairs, names):
            return Plan(names, [(names[one], names[other], 5 if (one, other) in pairs else 6)
                                for one, other in itertools.permutations(range(8), 2)])

        # Each event leads three others by 5 and four by 6 in both plans, but the three are not alike.
        self.assertIs(renaming(plan_of(cube, events), plan_of(band, events)), None)
        ring = [(place, (place + 1) & 7) for place in range(8)]
        rings = [(place, (place & 4) + ((place + 1) & 3)) for place in range(8)]
        self.assertIs(renaming(plan_of(ring, events), plan_of(rings, events)), None)
        for pairs in [cube, band, ring, rings]:
            one, other = plan_of(pairs, events), plan_of(pairs, list("gdbhacfe"))
            found = renaming(one, other)
            table, told = Table(one), Table(other)
            for earlier, later in itertools.permutations(events, 2):
                self.assertEqual(told.lead(found[earlier], found[later]), table.lead(earlier, later))

    def test_leads_of_one_direction(self):
        ring = Plan(["a", "b", "c"], [("a", "b", 1), ("b", "c", 1), ("c", "a", 1)])
        other = Plan(["a", "b", "c"], [("a", "c", 1), ("c", "b", 1), ("b", "a", 1)])
        found = renaming(ring, other)
        self.assertEqual([Table(other).lead(found[earlier], found[later]) for earlier, later in ["ab", "bc", "ca"]],
                         [1, 1, 1])
        self.assertIs(renaming(Plan(["a", "b"], limits={"a": 1}), Plan(["a", "b"])), None)

    def test_numbers_of_events(self):
        self.assertIs(renaming(Plan(["a"]), Plan(["a", "b"])), None)
        self.assertIs(renaming(Plan(["a", "b"]), Plan(["a"])), None)

    def test_it_looks_at_moments_and_not_at_ties(self):
        one = Plan(["a", "b"], [("a", "b", 0), ("b", "a", 2)], limits={"a": 4})
        other = Plan(["a", "b"], [("a", "b", 2), ("b", "b", 1), ("b", "a", 0)], limits={"a": 4, "b": 4})
        self.assertEqual(renaming(one, other), {"a": "b", "b": "a"})
        self.assertIs(alike(Plan(["b", "a"], one.ties(), limits=one.limits()), renamed(other, {"a": "b", "b": "a"})),
                      None)

    def test_new_results_and_wrong_arguments(self):
        one, other = baker(), Plan(["load", "sell"], [("sell", "load", 0)])
        renaming(one, other).clear()
        self.assertEqual(renaming(other=other, one=one), {"order": "sell", "bake": "load"})
        for value in no_plans():
            self.assert_keeps(InvalidPlan, "value", value, renaming, value, 7)
            self.assert_keeps(InvalidPlan, "value", value, renaming, baker(), value)


if __name__ == "__main__":
    unittest.main()

"""Small plans whose moments can all be gone through, larger ones, and what the definitions say of them."""

import itertools
import random

from pileups.errors import Ring
from pileups.plans import Plan

NAMES = ["load", "sell", "a", "zz", "note", "b", "stop", "m"]


def small_plans():
    """Return plans of up to three events, with self-ties, double ties, limits and none."""
    return [
        Plan(["a"]), Plan(["a"], limits={"a": 0}), Plan(["a"], [("a", "a", 1)], limits={"a": 2}),
        Plan(["b", "a"], [("a", "b", 1)]), Plan(["a", "b"], [("a", "b", 0), ("b", "a", 1)]),
        Plan(["a", "b"], [("a", "b", 0), ("a", "b", 2)], limits={"a": 2, "b": 1}),
        Plan(["a", "b", "c"], [("a", "b", 0), ("b", "c", 0), ("c", "a", 2)], limits={"b": 3}),
        Plan(["c", "b", "a"], [("a", "c", 1), ("b", "c", 0), ("c", "b", 1)], limits={"a": 1}),
    ]


def like_plans():
    """Return plans with the same three events whose lags and limits are at most 2."""
    rng = random.Random(7)
    events = ["b", "a", "c"]
    plans = [Plan(events), Plan(events, limits={"a": 0, "b": 0, "c": 0}), Plan(events, limits={"c": 0, "a": 1})]
    while len(plans) < 40:
        ties = [(rng.choice(events), rng.choice(events), rng.randint(0, 2)) for row in range(rng.randint(0, 6))]
        limits = {event: rng.randint(0, 2) for event in events if rng.random() < 0.3}
        try:
            plans.append(Plan(events, ties, limits=limits))
        except Ring:
            continue
    return plans


def far_plans():
    """Return plans of up to eight events and sixty ties, with lags and limits of up to thirty digits."""
    rng = random.Random(11)
    plans = []
    while len(plans) < 60:
        events = rng.sample(NAMES, rng.randint(2, 8))
        most = rng.choice([3, 10 ** 6, 10 ** 30 - 1])
        many = rng.choice([3, len(events), 2 * len(events), 60])
        ties = [(rng.choice(events), rng.choice(events), rng.randint(0, most)) for row in range(many)]
        limits = {event: rng.randint(0, most) for event in events if rng.random() < 0.3}
        try:
            plans.append(Plan(events, ties, limits=limits))
        except Ring:
            continue
    return plans


def all_counts(plan, most):
    """Return all counts of a plan up to a number for each event."""
    return [dict(zip(plan.events(), row)) for row in itertools.product(range(most + 1), repeat=len(plan))]


def keeps(plan, counts):
    """Return True if counts break nothing, told in the words of the definition."""
    ties = [counts[later] - counts[earlier] <= lag for earlier, later, lag in plan.ties()]
    return all(ties) and all(counts[event] <= limit for event, limit in plan.limits().items())


def all_moments(plan, most):
    """Return all moments of a plan up to a number for each event."""
    return [counts for counts in all_counts(plan, most) if keeps(plan, counts)]


def greatest_lead(plan, earlier, later, most):
    """Return the greatest lead at the moments up to a number for each event, or None if it is that number."""
    lead = max(counts[later] - counts[earlier] for counts in all_moments(plan, most))
    return None if lead == most else lead


def greatest_count(plan, event, most):
    """Return the greatest count at the moments up to a number for each event, or None if it is that number."""
    count = max(counts[event] for counts in all_moments(plan, most))
    return None if count == most else count


def is_least(counts, others):
    """Return True if counts are among others, and no count of these is below its own."""
    return counts in others and all(counts[event] <= other[event] for other in others for event in counts)


def repeatable(plan, events):
    """Return True if events can come again and again, told in the words of the definition."""
    closed = all(earlier in events for earlier, later, lag in plan.ties() if later in events)
    return closed and not any(event in events for event in plan.limits())


def level_of(stock, counts):
    """Return the level of a stock, told in the words of the definition."""
    level = stock.start
    for event, amount in stock.amounts().items():
        level += amount * counts[event]
    return level

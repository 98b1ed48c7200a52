"""How long answers on plans of eight events take, measured by how long the closed table of such a plan takes."""

import time
import unittest

from pileups.flows import flow
from pileups.likeness import alike, fewest, needless, seen, spanned, within
from pileups.plans import Plan
from pileups.stocks import Stock, greatest, least
from pileups.tables import Table

EVENTS = list("abcdefgh")


def ties_of(pairs):
    return [(earlier, later, 10 ** 20 + 7 * place) for place, (earlier, later) in enumerate(pairs)]


def full_plan(more=0):
    """Return a plan with a tie for each pair of different events, and limits."""
    pairs = [(earlier, later) for earlier in EVENTS for later in EVENTS if earlier != later]
    ties = [(earlier, later, lag + more) for earlier, later, lag in ties_of(pairs)]
    return Plan(EVENTS, ties, limits={event: 10 ** 25 + place for place, event in enumerate(EVENTS)})


def even_plan():
    """Return a plan with a tie for each pair of different events in which each tie bars as much as a way round it."""
    places = {event: place for place, event in enumerate(EVENTS)}
    return Plan(EVENTS, [(earlier, later, abs(places[earlier] - places[later]) * 10 ** 20) for earlier in EVENTS
                         for later in EVENTS if earlier != later])


def onward_plan(limited):
    """Return a plan with a tie from each event to each later one, and limits of some events."""
    pairs = [(earlier, later) for place, earlier in enumerate(EVENTS) for later in EVENTS[place + 1:]]
    return Plan(EVENTS, ties_of(pairs), limits={event: 10 ** 25 + EVENTS.index(event) for event in limited})


def pair_stocks():
    return [Stock(0, {earlier: -1, later: 1}) for earlier in EVENTS for later in EVENTS if earlier != later]


def least_time(call, times):
    """Return the least time that a call takes: what else the machine does only makes it longer."""
    found = []
    for turn in range(times):
        begin = time.perf_counter()
        call()
        found.append(time.perf_counter() - begin)
    return min(found)


class TestSpeed(unittest.TestCase):
    def assert_within(self, calls, tables):
        """Each call takes at most as long as so many closed tables; if not, it is measured again."""
        plan = full_plan()
        for name, call in calls.items():
            shares = []
            for turn in range(5):
                shares.append(least_time(call, 7) / least_time(lambda: Table(plan), 20))
                if shares[-1] <= tables:
                    break
            self.assertLessEqual(min(shares), tables, name)

    def test_likeness(self):
        plan, other = full_plan(), full_plan(1)
        self.assert_within({
            "needless": lambda: needless(plan), "fewest": lambda: fewest(plan), "spanned": lambda: spanned(plan, plan),
            "spanned of two": lambda: spanned(plan, other), "seen": lambda: seen(plan, EVENTS[:7]),
        }, 20)
        self.assert_within({"within": lambda: within(plan, plan), "alike": lambda: alike(plan, plan)}, 5)

    def test_likeness_of_ties_that_follow_from_one_another(self):
        plan = even_plan()
        self.assertEqual([len(needless(plan)), len(fewest(plan)), len(spanned(plan, plan).ties())], [42, 14, 14])
        self.assert_within({
            "needless": lambda: needless(plan), "fewest": lambda: fewest(plan), "spanned": lambda: spanned(plan, plan),
            "seen": lambda: seen(plan, EVENTS[:7]),
        }, 30)

    def test_levels_and_flows(self):
        plan = onward_plan(EVENTS[1:])
        stock = Stock(5, {"a": -3, "b": 10 ** 20, "c": -7, "d": 4, "h": 9})
        self.assert_within({
            "greatest": lambda: greatest(plan, stock), "least": lambda: least(plan, stock), "flow": lambda: flow(plan,
                                                                                                                 stock),
        }, 6)

    def test_levels_and_flows_of_all_pairs(self):
        for limited in [EVENTS[1:], EVENTS[:1], []]:
            plan, stocks = onward_plan(limited), pair_stocks()
            self.assert_within({
                "greatest": lambda: [greatest(plan, stock) for stock in stocks],
                "flow": lambda: [flow(plan, stock) for stock in stocks],
            }, 4 * len(stocks))


if __name__ == "__main__":
    unittest.main()

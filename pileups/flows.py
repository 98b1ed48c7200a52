"""Flows, which show that a level is never exceeded, and pumps, which raise a level again and again."""

from pileups.carrying import carried
from pileups.closing import close, closed_sums, placed_rows, places_of, rows_between
from pileups.plans import need_plan
from pileups.repeats import can_repeat, repeats
from pileups.stocks import gain, need_fitting
from pileups.words import is_count, is_integer


def flow(plan, stock):
    """Return a flow whose bound is the greatest level of a stock, or None if there is none."""
    need_fitting(plan, stock)
    sums, ways = close(places_of(plan), placed_rows(plan))
    moved = carried(sums, stock.amounts())
    if moved is None:
        return None
    ties = [0 for tie in plan.ties()]
    limits = {event: 0 for event in plan.limits()}
    for first, last in moved:
        for kind, which in rows_between(ways, first, last):
            if kind == "tie":
                ties[which] += moved[first, last]
            elif kind == "limit":
                limits[which] += moved[first, last]
    return (ties, limits)


def is_for_ties(plan, value):
    """Return True if a value is a list of an integer from 0 on for each tie."""
    if not isinstance(value, (list, tuple)) or len(value) != len(plan.ties()):
        return False
    return all([is_count(number) for number in value])


def is_for_limits(plan, value):
    """Return True if a value is a dict of an integer from 0 on for each event with a limit."""
    limits = plan.limits()
    if not isinstance(value, dict) or len(value) != len(limits):
        return False
    return all([event in value and is_count(value[event]) for event in limits])


def supply(plan, event, ties, limits):
    """Return what the numbers of a flow allow as the amount of an event."""
    numbered = list(zip(plan.ties(), ties))
    into = sum([number for tie, number in numbered if tie[1] == event])
    out = sum([number for tie, number in numbered if tie[0] == event])
    return into - out + limits.get(event, 0)


def bound_of(plan, stock, ties, limits):
    """Return the bound of a flow."""
    caps = plan.limits()
    lags = sum([tie[2] * number for tie, number in zip(plan.ties(), ties)])
    return stock.start + lags + sum([caps[event] * limits[event] for event in caps])


def is_flow(plan, stock, bound, value):
    """Return True if a value is a flow with this bound."""
    need_fitting(plan, stock)
    if not isinstance(value, tuple) or len(value) != 2:
        return False
    ties, limits = value
    if not is_for_ties(plan, ties) or not is_for_limits(plan, limits):
        return False
    if any([stock.amount(event) > supply(plan, event, ties, limits) for event in plan.events()]):
        return False
    return is_integer(bound) and bound == bound_of(plan, stock, ties, limits)


def is_pump(plan, stock, value):
    """Return True if a value is a list of events that raise the level of a stock for ever."""
    need_fitting(plan, stock)
    if not isinstance(value, (list, tuple)):
        return False
    if not all([event in plan and value.count(event) == 1 for event in value]):
        return False
    return can_repeat(plan, value) and gain(stock, value) > 0


def pumps(plan):
    """Return the lists of one or more events that can come again and again."""
    need_plan(plan)
    return repeats(closed_sums(plan))

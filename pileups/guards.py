"""Events that are held back, so that no level is ever out of its bounds, whatever the others do."""

from pileups.errors import InvalidNames
from pileups.moments import behind, come, need_moment, plan_behind, stepped
from pileups.plans import Plan, need_different, need_plan
from pileups.safety import beyond_bounds, need_bounds
from pileups.stocks import Stock, level_at


def remaining(plan, counts):
    """Return the plan whose runs are exactly the rows of events that can follow behind a moment."""
    need_moment(plan, counts)
    return plan_behind(plan, counts)


def need_guard(plan, bounds, ours):
    """Raise what is wrong with a plan, bounds of its levels and a list of events that can be held back."""
    need_plan(plan)
    need_bounds(plan, bounds)
    if not isinstance(ours, (list, tuple)):
        raise InvalidNames(ours)
    need_different(plan, ours)


def others_alone(plan, ours, counts):
    """Return the plan of what can follow behind a moment if our events are held back."""
    rest = plan_behind(plan, counts)
    limits = rest.limits()
    for event in ours:
        limits[event] = 0
    return Plan(rest.events(), rest.ties(), limits=limits)


def way_out(plan, bounds, ours, counts):
    """Return None if the others alone never lead out of the bounds, otherwise a moment at which a level is out."""
    begun = [(Stock(level_at(stock, counts), stock.amounts()), low, high) for stock, low, high in bounds]
    more = beyond_bounds(others_alone(plan, ours, counts), begun)
    return None if more is None else {event: counts[event] + more[event] for event in plan.events()}


def outburst(plan, bounds, ours, counts):
    """Return None if the others alone never lead out of the bounds, otherwise a moment at which a level is out."""
    need_guard(plan, bounds, ours)
    need_moment(plan, counts)
    return way_out(plan, bounds, ours, counts)


def may_come(plan, bounds, ours, counts):
    """Return our events that can come next without letting the others lead out of the bounds."""
    need_guard(plan, bounds, ours)
    able = [event for event in come(plan, counts) if event in ours]
    return [event for event in able if way_out(plan, bounds, ours, stepped(counts, event, 1)) is None]


def unguarded(plan, bounds, ours, run):
    """Return None if each of our events in a run may come, otherwise the index of the first one that may not."""
    need_guard(plan, bounds, ours)
    behind(plan, run)
    counts = {event: 0 for event in plan.events()}
    for index, event in enumerate(run):
        counts = stepped(counts, event, 1)
        if event in ours and way_out(plan, bounds, ours, counts) is not None:
            return index
    return None

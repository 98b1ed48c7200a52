"""What goes on for ever: events that can come any number of times, and the groups of those that keep together."""

from pileups.closing import NOTHING, closed_sums
from pileups.errors import InvalidNames
from pileups.plans import need_event, need_plan
from pileups.stocks import gain, need_fitting


def endless_events(plan, known):
    """Return the events of a plan with closed sums that can come any number of times."""
    return [event for event in plan.events() if event not in known[NOTHING]]


def endless(plan):
    """Return the events that can come any number of times."""
    need_plan(plan)
    return endless_events(plan, closed_sums(plan))


def grouped(known, events):
    """Return the groups of events of which each leads each other one by some number at most."""
    rows = []
    for event in events:
        # Of three events, if two pairs keep together, so does the third: the first one of a group stands for all.
        own = [row for row in rows if event in known[row[0]] and row[0] in known[event]]
        if own:
            own[0].append(event)
        else:
            rows.append([event])
    return rows


def groups(plan):
    """Return the groups of events of which each leads each other one by some number at most."""
    need_plan(plan)
    return grouped(closed_sums(plan), plan.events())


def closed(plan, events):
    """Return the events of a list, and all those that they wait for."""
    need_plan(plan)
    if not isinstance(events, (list, tuple)):
        raise InvalidNames(events)
    for event in events:
        need_event(plan.events(), event)
    there = {event: True for event in events}
    # A tie can make another one matter that stands ahead of it, so the ties are gone through once for each event.
    for event in plan.events():
        for earlier, later, lag in plan.ties():
            if later in there:
                there[earlier] = True
    return [event for event in plan.events() if event in there]


def sums(plan, stock):
    """Return the sums of the amounts of a stock over the events of each group that can come any number of times."""
    need_fitting(plan, stock)
    known = closed_sums(plan)
    return [gain(stock, events) for events in grouped(known, endless_events(plan, known))]


def is_bounded(plan, stock):
    """Return True if a stock has a greatest and a least level."""
    return not any([rest != 0 for rest in sums(plan, stock)])

"""Logs: what is seen of a run if some of its events are hidden, and what can follow."""

from pileups.closing import closed_sums, least_moment
from pileups.errors import Barred, InvalidLog, Misfit, TooLong
from pileups.likeness import alike, seen, total
from pileups.moments import LONGEST_RUN, behind, come, higher, plan_behind, way_between
from pileups.plans import need_names, need_plan


def need_log(names, log):
    """Raise InvalidLog for a value that is no list of seen events."""
    if not isinstance(log, (list, tuple)) or not all([event in names for event in log]):
        raise InvalidLog(log)


def need_seen(plan, names, log):
    """Raise what is wrong with a plan, seen events of it and a log of these."""
    need_plan(plan)
    need_names(plan, names)
    need_log(names, log)


def misfit(plan, names, log):
    """Return None if a log fits, or the index of its first event that cannot come."""
    need_seen(plan, names, log)
    try:
        behind(seen(plan, names), log)
    except Barred as stop:
        return stop.index
    return None


def seen_behind(told, log):
    """Return the counts of the seen events, told by the plan of just these, behind a log."""
    try:
        return behind(told, log)
    except Barred as stop:
        raise Misfit(stop.index) from None


def coming(plan, names, log):
    """Return the seen events that can follow in a log."""
    need_seen(plan, names, log)
    told = seen(plan, names)
    return come(told, seen_behind(told, log))


def least_stops(plan, log):
    """Return the least moments at which no event, the first one, and so on, of a log have come, if the log fits."""
    sums = closed_sums(plan)
    stops = [{event: 0 for event in plan.events()}]
    for event in log:
        # The hidden events that a seen one waits for come directly ahead of it, and no other ones.
        wanted = least_moment(sums, event, stops[-1][event] + 1)
        stops.append(higher(plan, stops[-1], wanted))
    return stops


def filled(plan, names, log):
    """Return a shortest run of which a log is what is seen."""
    need_seen(plan, names, log)
    seen_behind(seen(plan, names), log)
    stops = least_stops(plan, log)
    many = total(stops[-1])
    if many > LONGEST_RUN:
        raise TooLong(many)
    run = []
    for index in range(len(log)):
        run.extend(way_between(plan, stops[index], stops[index + 1]))
    return run


def future(plan, names, log):
    """Return the plan of the seen events whose runs are exactly the logs that can follow a log."""
    need_seen(plan, names, log)
    told = seen(plan, names)
    return plan_behind(told, seen_behind(told, log))


def parting(plan, names, one, other):
    """Return None if the same logs can follow two logs, or a shortest log that can follow one alone, and which one."""
    need_seen(plan, names, one)
    told = seen(plan, names)
    first = seen_behind(told, one)
    need_log(names, other)
    plans = [plan_behind(told, first), plan_behind(told, seen_behind(told, other))]
    found = alike(plans[0], plans[1])
    if found is None:
        return None
    counts, which = found
    if total(counts) > LONGEST_RUN:
        raise TooLong(total(counts))
    nothing = {event: 0 for event in counts}
    return (way_between(plans[which], nothing, counts), which)

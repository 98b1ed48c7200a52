"""Moments of a plan, and the runs that lead to them."""

from pileups.errors import Barred, InvalidCounts, InvalidRun, NotBehind, NotMoment, TooLong
from pileups.plans import Plan, need_plan
from pileups.words import is_count

LONGEST_RUN = 200


def is_counts(plan, value):
    """Return True if a value is counts of a plan."""
    need_plan(plan)
    if not isinstance(value, dict) or len(value) != len(plan):
        return False
    return all([event in value and is_count(value[event]) for event in plan.events()])


def need_counts(plan, value):
    """Raise InvalidCounts for a value that is no counts of a plan."""
    if not is_counts(plan, value):
        raise InvalidCounts(value)


def barred(plan, counts):
    """Return the first tie, or else the first limit, that counts break, or None for a moment."""
    need_counts(plan, counts)
    for index, (earlier, later, lag) in enumerate(plan.ties()):
        if counts[later] > counts[earlier] + lag:
            return ("tie", index)
    limits = plan.limits()
    for event in plan.events():
        if event in limits and counts[event] > limits[event]:
            return ("limit", event)
    return None


def is_moment(plan, counts):
    """Return True if counts are a moment of a plan."""
    return barred(plan, counts) is None


def need_moment(plan, counts):
    """Raise what is wrong with a moment of a plan."""
    if not is_moment(plan, counts):
        raise NotMoment(counts)


def stepped(counts, event, step):
    """Return the counts in which an event has come so many times more."""
    return {**counts, event: counts[event] + step}


def come(plan, counts):
    """Return the events that can come next at a moment."""
    need_moment(plan, counts)
    return [event for event in plan.events() if is_moment(plan, stepped(counts, event, 1))]


def came(plan, counts):
    """Return the events that may have come last at a moment."""
    need_moment(plan, counts)
    there = [event for event in plan.events() if counts[event] > 0]
    return [event for event in there if is_moment(plan, stepped(counts, event, -1))]


def beginning(plan, begin):
    """Return a copy of the moment at which a run begins: if it is None, nothing has come yet."""
    if begin is None:
        return {event: 0 for event in plan.events()}
    need_moment(plan, begin)
    return dict(begin)


def need_run(plan, run):
    """Raise InvalidRun for a value that is no list of events of a plan."""
    if not isinstance(run, (list, tuple)):
        raise InvalidRun(run)
    if not all([event in plan for event in run]):
        raise InvalidRun(run)


def waits(plan):
    """Return what each event of a plan waits for: earlier events, each with the lag."""
    awaited = {event: [] for event in plan.events()}
    for earlier, later, lag in plan.ties():
        awaited[later].append((earlier, lag))
    return awaited


def is_ready(awaited, counts, event):
    """Return True if no tie bars that an event comes next at a moment."""
    return all([counts[event] < counts[earlier] + lag for earlier, lag in awaited[event]])


def behind(plan, run, *, begin=None):
    """Return the counts behind a run that begins at a moment."""
    need_plan(plan)
    need_run(plan, run)
    counts = beginning(plan, begin)
    awaited = waits(plan)
    limits = plan.limits()
    for index, event in enumerate(run):
        if not is_ready(awaited, counts, event) or counts[event] == limits.get(event):
            raise Barred(index)
        counts[event] += 1
    return counts


def next_towards(awaited, counts, goal):
    """Return the first event that can come next on a way from a moment to a later one."""
    # One of them always can: else each waits for another one of them, on a ring of ties with the lag 0.
    wanted = [event for event in awaited if counts[event] < goal[event]]
    able = [event for event in wanted if is_ready(awaited, counts, event)]
    return able[0]


def way_between(plan, begin, goal):
    """Return a run that leads from one moment to a later one."""
    awaited = waits(plan)
    counts = dict(begin)
    run = []
    for step in range(sum([goal[event] - begin[event] for event in awaited])):
        event = next_towards(awaited, counts, goal)
        counts[event] += 1
        run.append(event)
    return run


def run_to(plan, counts, *, begin=None):
    """Return a run that leads from one moment to another."""
    need_moment(plan, counts)
    first = beginning(plan, begin)
    if any([first[event] > counts[event] for event in plan.events()]):
        raise NotBehind(begin)
    total = sum([counts[event] - first[event] for event in plan.events()])
    if total > LONGEST_RUN:
        raise TooLong(total)
    return way_between(plan, first, counts)


def plan_behind(plan, counts):
    """Return the plan whose runs are exactly the rows of events that can follow behind a moment."""
    # The lags on a ring add up to the same as before, so no ring comes about that has the lag 0 throughout.
    ties = [(earlier, later, lag + counts[earlier] - counts[later]) for earlier, later, lag in plan.ties()]
    limits = plan.limits()
    return Plan(plan.events(), ties, limits={event: limits[event] - counts[event] for event in limits})


def need_two_counts(plan, one, other):
    """Raise what is wrong with two counts of a plan."""
    need_counts(plan, one)
    need_counts(plan, other)


def higher(plan, one, other):
    """Return the counts with the greater count of each event."""
    need_two_counts(plan, one, other)
    return {event: max(one[event], other[event]) for event in plan.events()}


def lower(plan, one, other):
    """Return the counts with the lesser count of each event."""
    need_two_counts(plan, one, other)
    return {event: min(one[event], other[event]) for event in plan.events()}

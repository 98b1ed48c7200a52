"""Moments of a plan, and the runs that lead to them."""

from pileups.errors import Barred, InvalidCounts, InvalidRun, NotBehind, NotMoment, TooLong
from pileups.plans import need_plan
from pileups.words import is_count

LONGEST_RUN = 200


def is_counts(plan, value):
    """Return True if a value is counts of a plan."""
    need_plan(plan)
    if not isinstance(value, dict) or len(value) != len(plan):
        return False
    return all([event in value and is_count(value[event]) for event in plan.events()])


def need_counts(plan, value):
    """Raise InvalidCounts for a value that is no counts of a plan."""
    if not is_counts(plan, value):
        raise InvalidCounts(value)


def barred(plan, counts):
    """Return the first tie, or else the first limit, that counts break, or None for a moment."""
    need_counts(plan, counts)
    for index, (earlier, later, lag) in enumerate(plan.ties()):
        if counts[later] > counts[earlier] + lag:
            return ("tie", index)
    limits = plan.limits()
    for event in plan.events():
        if event in limits and counts[event] > limits[event]:
            return ("limit", event)
    return None


def is_moment(plan, counts):
    """Return True if counts are a moment of a plan."""
    return barred(plan, counts) is None


def need_moment(plan, counts):
    """Raise what is wrong with a moment of a plan."""
    if not is_moment(plan, counts):
        raise NotMoment(counts)


def stepped(counts, event, step):
    """Return the counts in which an event has come so many times more."""
    return {**counts, event: counts[event] + step}


def come(plan, counts):
    """Return the events that can come next at a moment."""
    need_moment(plan, counts)
    return [event for event in plan.events() if is_moment(plan, stepped(counts, event, 1))]


def came(plan, counts):
    """Return the events that may have come last at a moment."""
    need_moment(plan, counts)
    there = [event for event in plan.events() if counts[event] > 0]
    return [event for event in there if is_moment(plan, stepped(counts, event, -1))]


def beginning(plan, begin):
    """Return a copy of the moment at which a run begins: if it is None, nothing has come yet."""
    if begin is None:
        return {event: 0 for event in plan.events()}
    need_moment(plan, begin)
    return dict(begin)


def need_run(plan, run):
    """Raise InvalidRun for a value that is no list of events of a plan."""
    if not isinstance(run, (list, tuple)):
        raise InvalidRun(run)
    if not all([event in plan for event in run]):
        raise InvalidRun(run)


def behind(plan, run, *, begin=None):
    """Return the counts behind a run that begins at a moment."""
    need_plan(plan)
    need_run(plan, run)
    counts = beginning(plan, begin)
    for index, event in enumerate(run):
        counts = stepped(counts, event, 1)
        if not is_moment(plan, counts):
            raise Barred(index)
    return counts


def next_towards(plan, counts, goal):
    """Return the first event that can come next on a way from a moment to a later one."""
    # One of them always can: else each waits for another one of them, on a ring of ties with the lag 0.
    wanted = [event for event in plan.events() if counts[event] < goal[event]]
    able = [event for event in wanted if is_moment(plan, stepped(counts, event, 1))]
    return able[0]


def run_to(plan, counts, *, begin=None):
    """Return a run that leads from one moment to another."""
    need_moment(plan, counts)
    current = beginning(plan, begin)
    if any([current[event] > counts[event] for event in plan.events()]):
        raise NotBehind(begin)
    total = sum([counts[event] - current[event] for event in plan.events()])
    if total > LONGEST_RUN:
        raise TooLong(total)
    run = []
    while len(run) < total:
        event = next_towards(plan, current, counts)
        current = stepped(current, event, 1)
        run.append(event)
    return run


def need_two_counts(plan, one, other):
    """Raise what is wrong with two counts of a plan."""
    need_counts(plan, one)
    need_counts(plan, other)


def higher(plan, one, other):
    """Return the counts with the greater count of each event."""
    need_two_counts(plan, one, other)
    return {event: max(one[event], other[event]) for event in plan.events()}


def lower(plan, one, other):
    """Return the counts with the lesser count of each event."""
    need_two_counts(plan, one, other)
    return {event: min(one[event], other[event]) for event in plan.events()}

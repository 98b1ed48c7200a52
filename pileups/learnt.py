"""Plans told back: the plan with the fewest moments that lets what has happened, and runs that tell a plan."""

from pileups.closing import NOTHING, closed_sums, least_moment
from pileups.endless import endless_events
from pileups.errors import Endless, InvalidLogs, TooLong
from pileups.likeness import plan_of, total
from pileups.moments import LONGEST_RUN, way_between
from pileups.plans import need_event, need_events, need_plan

MOST_LOGS = 80
LONGEST_LOG = 200


def need_logs(events, logs):
    """Raise what is wrong with a list of runs of events to learn from."""
    if not isinstance(logs, (list, tuple)) or len(logs) > MOST_LOGS:
        raise InvalidLogs(logs)
    for log in logs:
        if not isinstance(log, (list, tuple)) or len(log) > LONGEST_LOG:
            raise InvalidLogs(log)
        for event in log:
            need_event(events, event)


def widen(known, log):
    """Let a run happen: make the greatest leads as great as they are along it."""
    places = list(known)
    counts = {place: 0 for place in places}
    for event in log:
        counts[event] += 1
        for place in places:
            lead = counts[event] - counts[place]
            if lead > known[place][event]:
                known[place][event] = lead


def leads_of(events, logs):
    """Return the greatest leads at the moments along runs; they are closed sums."""
    places = [NOTHING, *events]
    known = {first: {last: 0 for last in places} for first in places}
    for log in logs:
        widen(known, log)
    return known


def learnt(events, logs):
    """Return the plan with the fewest moments of which each of some lists of events is a run."""
    need_events(events)
    need_logs(events, logs)
    return plan_of(events, leads_of(events, logs))


def is_told(plan, logs):
    """Return True if the plan that is learnt from lists of events has the same moments as a plan."""
    need_plan(plan)
    need_logs(plan.events(), logs)
    return leads_of(plan.events(), logs) == closed_sums(plan)


def shown_moments(plan):
    """Return the least moments that show how often each event, and how far each one ahead of another one, can come."""
    known = closed_sums(plan)
    unending = endless_events(plan, known)
    if unending:
        raise Endless(unending[0])
    events = plan.events()
    most = [least_moment(known, event, known[NOTHING][event]) for event in events]
    leads = [least_moment(known, later, known[earlier][later]) for earlier in events for later in events]
    return [*most, *leads]


def teaching(plan):
    """Return different runs of a plan from which the plan is told."""
    need_plan(plan)
    moments = shown_moments(plan)
    for counts in moments:
        if total(counts) > LONGEST_RUN:
            raise TooLong(total(counts))
    events = plan.events()
    nothing = {event: 0 for event in events}
    # Runs to different moments are different, and one run to each of them is enough.
    goals = {tuple([counts[event] for event in events]): counts for counts in moments}
    return [way_between(plan, nothing, goals[row]) for row in goals]

"""The sets of events that can come again and again."""

from pileups.plans import need_plan


def can_repeat(plan, events):
    """Return True if events of a plan have no limits and wait for none but one another."""
    if any([plan.limit(event) is not None for event in events]):
        return False
    return all([earlier in events for earlier, later, lag in plan.ties() if later in events])


def choices(items):
    """Return all lists of some of the items, by their lengths, then by the places of the items."""
    rows = [[]]
    for place in range(len(items)):
        rows = [*rows, *[[*row, place] for row in rows]]
    ordered = sorted(rows, key=lambda row: (len(row), row))
    return [[items[place] for place in row] for row in ordered]


def repeats(plan):
    """Return the lists of one or more events that can come again and again."""
    need_plan(plan)
    return [events for events in choices(plan.events()) if events and can_repeat(plan, events)]

"""Plans together: what two plans do that share events, whether one holds the other back, and plans renamed."""

from pileups.closing import NOTHING, closed_sums
from pileups.errors import TooMany
from pileups.likeness import beyond, seen
from pileups.plans import MOST_EVENTS, Plan, lesser_limits, need_plan, need_room


def composed(one, other):
    """Return the plan of two plans that share some events."""
    need_plan(one)
    need_plan(other)
    events = [*one.events(), *[event for event in other.events() if event not in one]]
    if len(events) > MOST_EVENTS:
        raise TooMany(MOST_EVENTS)
    ties = [*one.ties(), *other.ties()]
    need_room(len(ties))
    return Plan(events, ties, limits=lesser_limits(one.limits(), other.limits()))


def held_back(one, other):
    """Return None if one plan is never held back by another one, or a smallest moment of it that never comes then."""
    left = seen(composed(one, other), one.events())
    return beyond(closed_sums(one), left)


def profile(sums, event):
    """Return what stays the same of the leads of an event if events are renamed, in an order of its own."""
    onward = sorted(list(sums[event].values()))
    back = sorted([sums[place][event] for place in sums if event in sums[place]])
    return (sums[NOTHING].get(event, -1), tuple(onward), tuple(back))


def is_like(sums, others, event, renamed, pairs):
    """Return True if an event leads those that have new names already as the renamed one leads these."""
    for name, new in pairs:
        if sums[event].get(name) != others[renamed].get(new) or sums[name].get(event) != others[new].get(renamed):
            return False
    return True


def renamed_on(sums, others, matches, pairs):
    """Return pairs of events and their new names, these and one for each event that has none yet, or None."""
    events = list(matches)
    # Nothing is a place, too, and keeps its name: so it stands ahead of the events.
    if len(pairs) > len(events):
        return pairs
    event = events[len(pairs) - 1]
    taken = [new for name, new in pairs]
    for renamed in matches[event]:
        if renamed not in taken and is_like(sums, others, event, renamed, pairs):
            found = renamed_on(sums, others, matches, [*pairs, (event, renamed)])
            if found is not None:
                return found
    return None


def renaming(one, other):
    """Return new names for the events of one plan with which it has the moments of the other, or None."""
    need_plan(one)
    need_plan(other)
    sums = closed_sums(one)
    others = closed_sums(other)
    profiles = {event: profile(sums, event) for event in one.events()}
    wanted = {event: profile(others, event) for event in other.events()}
    if sorted(list(profiles.values())) != sorted(list(wanted.values())):
        return None
    matches = {event: [new for new in wanted if wanted[new] == profiles[event]] for event in profiles}
    found = renamed_on(sums, others, matches, [(NOTHING, NOTHING)])
    return None if found is None else dict(found[1:])

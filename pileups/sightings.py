"""Sightings: what bounds on some counts tell of the others, and which orders of events are sure."""

from pileups.closing import NOTHING, close, closed_sums, least_moment, placed_rows, places_of
from pileups.errors import InvalidBounds, InvalidInteger, NotPossible
from pileups.plans import lesser_limits, need_event, need_plan
from pileups.words import is_count, is_integer


def is_ends(plan, value):
    """Return True if a value is None or a dict from events of a plan to integers from 0 on."""
    if value is None:
        return True
    if not isinstance(value, dict):
        return False
    return all([event in plan and is_count(value[event]) for event in value])


def need_ends(plan, value):
    """Raise InvalidBounds for a value that tells no bounds of counts of a plan."""
    if not is_ends(plan, value):
        raise InvalidBounds(value)


def need_end(value):
    """Raise InvalidInteger for a value that is neither None nor an integer from 0 on."""
    if value is not None and not is_count(value):
        raise InvalidInteger(value)


def greater_ends(one, other):
    """Return the greater number of each event that has one in one of two dicts."""
    ends = dict(one)
    for event in other:
        ends[event] = max(other[event], ends.get(event, other[event]))
    return ends


class Sighting:
    """All moments of a plan at which some counts are within bounds; it never changes."""

    def __init__(self, plan, *, low=None, high=None):
        need_plan(plan)
        need_ends(plan, low)
        need_ends(plan, high)
        self.whole = plan
        self.floors = {} if low is None else dict(low)
        self.roofs = {} if high is None else dict(high)
        roofs = [(NOTHING, event, self.roofs[event], ()) for event in self.roofs]
        floors = [(event, NOTHING, -self.floors[event], ()) for event in self.floors]
        self.sums = close(places_of(plan), [*placed_rows(plan), *roofs, *floors])[0]
        # A count that must be greater than itself makes a way from a place back to it that adds less than 0.
        self.fits = all([self.sums[place][place] == 0 for place in self.sums])

    def need_moments(self):
        """Raise NotPossible if there is no such moment."""
        if not self.fits:
            raise NotPossible()

    def need_told(self, event):
        """Raise UnknownEvent for what is no event of the plan."""
        need_event(self.whole.events(), event)

    def is_possible(self):
        """Return True if there is such a moment."""
        return self.fits

    def least(self, event):
        """Return how often an event has come at least."""
        self.need_told(event)
        self.need_moments()
        return -self.sums[event][NOTHING]

    def greatest(self, event):
        """Return how often an event has come at most, or None if there is no greatest number."""
        self.need_told(event)
        self.need_moments()
        return self.sums[NOTHING].get(event)

    def lead(self, earlier, later):
        """Return by how much an event has come more often than another one at most, or None if there is no number."""
        self.need_told(earlier)
        self.need_told(later)
        self.need_moments()
        return self.sums[earlier].get(later)

    def least_counts(self):
        """Return the moment at which each event has come as often as it has at least."""
        self.need_moments()
        return {event: -self.sums[event][NOTHING] for event in self.whole.events()}

    def greatest_counts(self):
        """Return the moment at which each event has come as often as it has at most, or None if there is none."""
        self.need_moments()
        most = self.sums[NOTHING]
        events = self.whole.events()
        return {event: most[event] for event in events} if all([event in most for event in events]) else None

    def narrowed(self, event, *, low=None, high=None):
        """Return the sighting in which, besides, an event has come so often at least and at most."""
        self.need_told(event)
        need_end(low)
        need_end(high)
        floor = {} if low is None else {event: low}
        roof = {} if high is None else {event: high}
        return Sighting(self.whole, low=greater_ends(self.floors, floor), high=lesser_limits(self.roofs, roof))


def need_time(plan, event, number):
    """Raise what is wrong with an event of a plan and a number from 1 on."""
    need_event(plan.events(), event)
    if not is_integer(number) or number < 1:
        raise InvalidInteger(number)


def otherwise(plan, earlier, k, later, j):
    """Return None if an order of events is sure, or the least moment that shows that it is not."""
    need_plan(plan)
    need_time(plan, earlier, k)
    need_time(plan, later, j)
    sums = closed_sums(plan)
    most = sums[NOTHING].get(later)
    if most is not None and most < j:
        return None
    counts = least_moment(sums, later, j)
    return counts if counts[earlier] < k else None


def is_sure(plan, earlier, k, later, j):
    """Return True if the j-th later event never comes without having the k-th earlier one at or ahead of its place."""
    return otherwise(plan, earlier, k, later, j) is None

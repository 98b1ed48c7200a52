"""Closed tables: how far one event can lead another one, and how often an event can come."""

from pileups.closing import NOTHING, close, least_moment, placed_rows, places_of, rows_between
from pileups.errors import InvalidInteger
from pileups.plans import need_event, need_plan
from pileups.words import is_count


class Table:
    """The greatest leads and counts of a plan, with the chains of rows that bar more."""

    def __init__(self, plan):
        need_plan(plan)
        self.order = tuple(plan.events())
        self.sums, self.ways = close(places_of(plan), placed_rows(plan))

    def __eq__(self, other):
        return isinstance(other, Table) and self.order == other.order and self.sums == other.sums

    def rows_to(self, first, last):
        """Return the list of the rows between two places, or None if no rows lead there."""
        return rows_between(self.ways, first, last) if last in self.sums[first] else None

    def lead(self, earlier, later):
        """Return by how much an event can have come more often than another one, or None if there is no greatest."""
        need_event(self.order, earlier)
        need_event(self.order, later)
        return self.sums[earlier].get(later)

    def most(self, event):
        """Return how often an event can come at most, or None if there is no greatest number."""
        need_event(self.order, event)
        return self.sums[NOTHING].get(event)

    def chain(self, earlier, later):
        """Return rows that bar a greater lead, or None if there is no greatest one."""
        need_event(self.order, earlier)
        need_event(self.order, later)
        return self.rows_to(earlier, later)

    def held(self, event):
        """Return rows that bar a greater count, or None if there is no greatest one."""
        need_event(self.order, event)
        return self.rows_to(NOTHING, event)

    def least(self, event, count):
        """Return the least moment at which an event has come so often, or None if it cannot."""
        greatest = self.most(event)
        if not is_count(count):
            raise InvalidInteger(count)
        if greatest is not None and count > greatest:
            return None
        return least_moment(self.sums, event, count)

    def shown(self, earlier, later):
        """Return the least moment with the greatest lead, or None if there is no greatest one."""
        greatest = self.lead(earlier, later)
        # At the least moment with so many of the later event there is none of the earlier one yet.
        return None if greatest is None else self.least(later, greatest)

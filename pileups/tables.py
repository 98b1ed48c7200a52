"""Closed tables: how far one event can lead another one, and how often an event can come.

Each row of a plan bars a lead. Rows that stand one behind another bar the sum of what they bar, and the least such sum
is the greatest lead.
"""

from pileups.errors import InvalidInteger
from pileups.plans import need_event, need_plan
from pileups.words import is_count

# The place where a chain of rows leads from nothing or to nothing; no event has this name.
NOTHING = ""


def placed_rows(plan):
    """Return the rows of a plan, each behind where it begins, where it ends and what it adds."""
    events = plan.events()
    rows = [(earlier, later, lag, ("tie", index)) for index, (earlier, later, lag) in enumerate(plan.ties())]
    # The limits stand in the order of the events, so that equal plans have equal tables, chains included.
    limited = [event for event in events if plan.limit(event) is not None]
    rows.extend([(NOTHING, event, plan.limit(event), ("limit", event)) for event in limited])
    rows.extend([(event, NOTHING, 0, ("none", event)) for event in events])
    return rows


def shorten(chains, pair, total, rows):
    """Keep a chain between a pair of places if it is the first one, or has a lesser sum than the one that is kept."""
    if pair not in chains or total < chains[pair][0]:
        chains[pair] = (total, rows)


def shortest_chains(places, placed):
    """Return for each pair of places the least sum of a chain between them, and its rows."""
    chains = {(place, place): (0, ()) for place in places}
    for first, last, added, row in placed:
        shorten(chains, (first, last), added, (row,))
    # The place in the middle stands in the outermost loop: only so one pass finds all chains.
    for middle in places:
        before = [place for place in places if (place, middle) in chains]
        beyond = [place for place in places if (middle, place) in chains]
        for first in before:
            for last in beyond:
                ahead, rows = chains[first, middle]
                more, others = chains[middle, last]
                shorten(chains, (first, last), ahead + more, (*rows, *others))
    return chains


class Table:
    """The greatest leads and counts of a plan, with the chains of rows that bar more."""

    def __init__(self, plan):
        need_plan(plan)
        self.order = tuple(plan.events())
        chains = shortest_chains((NOTHING, *self.order), placed_rows(plan))
        self.sums = {pair: chains[pair][0] for pair in chains}
        self.rows_between = {pair: chains[pair][1] for pair in chains}

    def __eq__(self, other):
        return isinstance(other, Table) and self.order == other.order and self.sums == other.sums

    def rows_to(self, first, last):
        """Return the list of the rows between two places, or None if no rows lead there."""
        if (first, last) not in self.rows_between:
            return None
        return list(self.rows_between[first, last])

    def lead(self, earlier, later):
        """Return by how much an event can have come more often than another one, or None if there is no greatest."""
        need_event(self.order, earlier)
        need_event(self.order, later)
        return self.sums.get((earlier, later))

    def most(self, event):
        """Return how often an event can come at most, or None if there is no greatest number."""
        need_event(self.order, event)
        return self.sums.get((NOTHING, event))

    def chain(self, earlier, later):
        """Return rows that bar a greater lead, or None if there is no greatest one."""
        need_event(self.order, earlier)
        need_event(self.order, later)
        return self.rows_to(earlier, later)

    def held(self, event):
        """Return rows that bar a greater count, or None if there is no greatest one."""
        need_event(self.order, event)
        return self.rows_to(NOTHING, event)

    def waited(self, other, event, count):
        """Return how often another event has come at least when an event has come so often."""
        ahead = self.sums.get((other, event), count)
        return max(0, count - ahead)

    def least(self, event, count):
        """Return the least moment at which an event has come so often, or None if it cannot."""
        greatest = self.most(event)
        if not is_count(count):
            raise InvalidInteger(count)
        if greatest is not None and count > greatest:
            return None
        return {other: self.waited(other, event, count) for other in self.order}

    def shown(self, earlier, later):
        """Return the least moment with the greatest lead, or None if there is no greatest one."""
        greatest = self.lead(earlier, later)
        # At the least moment with so many of the later event there is none of the earlier one yet.
        return None if greatest is None else self.least(later, greatest)

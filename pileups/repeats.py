"""The sets of events that can come again and again.

Such a set is told as a number with one bit for each event, by its place in the plan: so that sets are joined and held
against one another at once.
"""

from pileups.closing import NOTHING


def can_repeat(plan, events):
    """Return True if events of a plan have no limits and wait for none but one another."""
    if any([plan.limit(event) is not None for event in events]):
        return False
    return all([earlier in events for earlier, later, lag in plan.ties() if later in events])


def choices(items):
    """Return all lists of some of the items, by their lengths, then by the places of the items."""
    rows = [[]]
    for place in range(len(items)):
        rows = [*rows, *[[*row, place] for row in rows]]
    ordered = sorted(rows, key=lambda row: (len(row), row))
    return [[items[place] for place in row] for row in ordered]


def bits_of(sums):
    """Return the bit of each event."""
    events = [place for place in sums if place != NOTHING]
    return {event: 1 << place for place, event in enumerate(events)}


def together(sums, bits):
    """Return the sets that an endless event and those that it waits for make, with the events that make each."""
    makers = {}
    for event in bits:
        if event not in sums[NOTHING]:
            needed = sum([bits[other] for other in bits if event in sums[other]])
            makers.setdefault(needed, []).append(event)
    return makers


def repeating(sums, bits, amounts, longest):
    """Return the sets of at most so many events that can come again and again: each with its size and its gain."""
    makers = together(sums, bits)
    rows = [(0, 0, 0)]
    # A set stands behind those that are within it: so each union is made just once, from the sets that it needs.
    for needed in sorted(makers):
        own = makers[needed]
        others = needed - sum([bits[event] for event in own])
        more = sum([amounts.get(event, 0) for event in own])
        room = longest - len(own)
        wider = [(row | needed, size + len(own), gain + more) for row, size, gain in rows
                 if row & others == others and size <= room]
        rows = [*rows, *wider]
    return rows[1:]


def places_in(row, many):
    """Return the places of the events of a set."""
    return [place for place in range(many) if row >> place & 1]


def repeats(sums):
    """Return the lists of one or more events that can come again and again, by their lengths, then by the places."""
    bits = bits_of(sums)
    events = list(bits)
    found = [places_in(row, len(bits)) for row, size, gain in repeating(sums, bits, {}, len(bits))]
    ordered = sorted(found, key=lambda row: (len(row), row))
    return [[events[place] for place in places] for places in ordered]


def shortest_known(makers, bits, amounts):
    """Return the size of the shortest set with a gain above 0, of those that one event makes with what it waits for."""
    longest = len(bits)
    for needed in makers:
        events = [event for event in bits if needed & bits[event]]
        if sum([amounts.get(event, 0) for event in events]) > 0:
            longest = min(longest, len(events))
    return longest


def pump(sums, amounts):
    """Return the first one of these lists in which the sum of the amounts is above 0: there is one."""
    bits = bits_of(sums)
    events = list(bits)
    # No set needs to be made that is longer than one that is known at once.
    longest = shortest_known(together(sums, bits), bits, amounts)
    raising = [places_in(row, len(bits)) for row, size, gain in repeating(sums, bits, amounts, longest) if gain > 0]
    places = min(raising, key=lambda row: (len(row), row))
    return [events[place] for place in places]

"""Closed sums: the least sums of rows that lead from one place to another one.

Each row of a plan bars a lead. Rows that stand one behind another bar the sum of what they bar, and the least such sum
is the greatest lead. The places are nothing and the events; sums[first][last] is the least sum from one place to
another one, and it is missing where no rows lead there.
"""

# The place where a chain of rows leads from nothing or to nothing; no event has this name.
NOTHING = ""


def places_of(plan):
    """Return the places of a plan: nothing, and the events."""
    return [NOTHING, *plan.events()]


def placed_rows(plan):
    """Return the rows of a plan, each behind where it begins, where it ends and what it adds."""
    events = plan.events()
    limits = plan.limits()
    rows = [(earlier, later, lag, ("tie", index)) for index, (earlier, later, lag) in enumerate(plan.ties())]
    # The limits stand in the order of the events, so that equal plans have equal tables, chains included.
    rows.extend([(NOTHING, event, limits[event], ("limit", event)) for event in events if event in limits])
    rows.extend([(event, NOTHING, 0, ("none", event)) for event in events])
    return rows


def close(places, placed):
    """Return the closed sums of rows, and the ways: the single row, or a place in the middle, of each least sum."""
    sums = {place: {place: 0} for place in places}
    ways = {place: {} for place in places}
    for first, last, added, row in placed:
        if last not in sums[first] or added < sums[first][last]:
            sums[first][last] = added
            ways[first][last] = row
    # The place in the middle stands in the outermost loop: only so one pass finds all sums.
    for middle in places:
        beyond = list(sums[middle].items())
        for first in places:
            known = sums[first]
            if first == middle or middle not in known:
                continue
            ahead = known[middle]
            for last, more in beyond:
                if last not in known or ahead + more < known[last]:
                    known[last] = ahead + more
                    ways[first][last] = middle
    return (sums, ways)


def closed_sums(plan):
    """Return the closed sums of a plan."""
    return close(places_of(plan), placed_rows(plan))[0]


def rows_between(ways, first, last):
    """Return the rows that lead from one place to another one, or none for the same place."""
    if last not in ways[first]:
        return []
    way = ways[first][last]
    if isinstance(way, tuple):
        return [way]
    return [*rows_between(ways, first, way), *rows_between(ways, way, last)]


def tie_added(sums, tie):
    """Return the closed sums with one tie more."""
    earlier, later, lag = tie
    beyond = list(sums[later].items())
    closer = {}
    for first in sums:
        known = dict(sums[first])
        # No way is shorter for taking the tie twice: what leads back to its beginning adds no number below 0.
        if earlier in known:
            ahead = known[earlier] + lag
            for last, more in beyond:
                if last not in known or ahead + more < known[last]:
                    known[last] = ahead + more
        closer[first] = known
    return closer


def least_moment(sums, event, count):
    """Return the least moment at which an event has come so often, if it can."""
    return {other: max(0, count - sums[other].get(event, count)) for other in sums if other != NOTHING}

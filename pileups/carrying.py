"""What is carried from event to event at the least cost, and the moment that this shows to be the greatest.

The amounts of a stock are carried: an event with an amount above 0 takes it, one with an amount below 0 gives it, and
nothing gives or takes the rest. To carry one from place to place costs the lead of a closed table. What is carried bars
levels above the cost, and of all that can be carried, what costs least bars just the levels above the greatest one.
"""

from pileups.tables import NOTHING


def demands(events, stock):
    """Return what each place takes, or gives if it is below 0; all together is 0."""
    taken = {event: stock.amount(event) for event in events}
    return {NOTHING: -sum(list(taken.values())), **taken}


def ways(sums, wanted):
    """Return the pairs of a place that gives and one that takes, where the way between them has a cost."""
    givers = [place for place in wanted if wanted[place] < 0]
    takers = [place for place in wanted if wanted[place] > 0]
    return [(giver, taker) for giver in givers for taker in takers if (giver, taker) in sums]


def steps(sums, moved):
    """Return the steps, with their costs, by which more can be carried: on a way, or back where some is carried."""
    onward = [(giver, taker, sums[giver, taker]) for giver, taker in moved]
    back = [(taker, giver, -sums[giver, taker]) for giver, taker in moved if moved[giver, taker] > 0]
    return [*onward, *back]


def is_better(one, other):
    """Return True if a route costs less than another one, or as much with fewer places."""
    # Taking the shorter of equally good routes keeps the number of routes small, however great the amounts are.
    return (one[0], len(one[1])) < (other[0], len(other[1]))


def best_routes(possible, starts):
    """Return for each place that is reached from the starts the cost and the places of the best route."""
    best = {start: (0, (start,)) for start in starts}
    changed = True
    while changed:
        changed = False
        for first, last, cost in possible:
            if first in best:
                before, places = best[first]
                route = (before + cost, (*places, last))
                if last not in best or is_better(route, best[last]):
                    best[last] = route
                    changed = True
    return best


def next_route(sums, left, moved):
    """Return the places of the best route along which more must be carried, or None if all is carried."""
    best = best_routes(steps(sums, moved), [place for place in left if left[place] < 0])
    chosen = None
    takers = [place for place in left if left[place] > 0]
    for place in takers:
        if chosen is None or is_better(best[place], chosen):
            chosen = best[place]
    return None if chosen is None else chosen[1]


def carry_along(route, left, moved):
    """Carry as much as possible along a route."""
    onward = [(route[place], route[place + 1]) for place in range(0, len(route) - 1, 2)]
    back = [(route[place + 1], route[place]) for place in range(1, len(route) - 1, 2)]
    amount = min([-left[route[0]], left[route[-1]], *[moved[pair] for pair in back]])
    left[route[0]] += amount
    left[route[-1]] -= amount
    for pair in onward:
        moved[pair] += amount
    for pair in back:
        moved[pair] -= amount


def carried(table, stock):
    """Return how much goes on each way so that all costs least, for a stock that has a greatest level."""
    left = demands(table.order, stock)
    moved = {pair: 0 for pair in ways(table.sums, left)}
    route = next_route(table.sums, left, moved)
    while route is not None:
        carry_along(route, left, moved)
        route = next_route(table.sums, left, moved)
    return moved


def needs(sums, moved):
    """Return by how much a place must be above another one: not too far below it, and a lead where some is carried."""
    kept = [(first, last, -sums[first, last]) for first, last in sums]
    # A pair is told the other way round here: the place that takes is the one that is above.
    used = [(taker, giver, sums[giver, taker]) for giver, taker in moved if moved[giver, taker] > 0]
    return [*kept, *used]


def peak(table, stock):
    """Return the least moment with the greatest level of a stock that has one."""
    rises = needs(table.sums, carried(table, stock))
    counts = {place: 0 for place in (NOTHING, *table.order)}
    changed = True
    while changed:
        changed = False
        for place, other, least in rises:
            if counts[place] < counts[other] + least:
                counts[place] = counts[other] + least
                changed = True
    return {event: counts[event] for event in table.order}

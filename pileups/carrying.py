"""What is carried from event to event at the least cost, and the moment that this shows to be the greatest.

The amounts of a stock are carried: an event with an amount above 0 takes it, one with an amount below 0 gives it, and
nothing gives or takes the rest. To carry one from place to place costs a closed sum. What is carried bars
levels above the cost, and of all that can be carried, what costs least bars just the levels above the greatest one. If
not all can be carried, there is no greatest level.
"""

from pileups.closing import NOTHING


def demands(sums, amounts):
    """Return what each place takes, or gives if it is below 0; all together is 0."""
    wanted = {place: amounts.get(place, 0) for place in sums}
    wanted[NOTHING] = -sum(list(amounts.values()))
    return wanted


def ways(sums, wanted):
    """Return the pairs of a place that gives and one that takes, where the way between them has a cost."""
    takers = [place for place in wanted if wanted[place] > 0]
    return [(giver, taker) for giver in wanted if wanted[giver] < 0 for taker in takers if taker in sums[giver]]


def steps(sums, moved):
    """Return the steps, with their costs, by which more can be carried: on a way, or back where some is carried."""
    onward = [(giver, taker, sums[giver][taker]) for giver, taker in moved]
    back = [(taker, giver, -sums[giver][taker]) for giver, taker in moved if moved[giver, taker] > 0]
    return [*onward, *back]


def best_routes(possible, starts):
    """Return the cost and the length of the best route from the starts to each place, and the place ahead of each."""
    best = {start: (0, 1) for start in starts}
    ahead = {}
    changed = True
    while changed:
        changed = False
        for first, last, added in possible:
            if first in best:
                before, many = best[first]
                # Taking the shorter of equally good routes keeps their number small, however great the amounts are.
                route = (before + added, many + 1)
                if last not in best or route < best[last]:
                    best[last] = route
                    ahead[last] = first
                    changed = True
    return (best, ahead)


def next_route(sums, left, moved):
    """Return the places of the best route along which more must be carried, or None if none leads to who takes more."""
    best, ahead = best_routes(steps(sums, moved), [place for place in left if left[place] < 0])
    takers = [place for place in left if left[place] > 0 and place in best]
    if not takers:
        return None
    route = [min(takers, key=lambda place: best[place])]
    while route[-1] in ahead:
        route.append(ahead[route[-1]])
    return route[::-1]


def carry_along(route, left, moved):
    """Carry as much as possible along a route."""
    onward = [(route[place], route[place + 1]) for place in range(0, len(route) - 1, 2)]
    back = [(route[place + 1], route[place]) for place in range(1, len(route) - 1, 2)]
    amount = min([-left[route[0]], left[route[-1]], *[moved[pair] for pair in back]])
    left[route[0]] += amount
    left[route[-1]] -= amount
    for pair in onward:
        moved[pair] += amount
    for pair in back:
        moved[pair] -= amount


def carried(sums, amounts):
    """Return how much goes on each way so that all costs least, or None if not all can be carried."""
    left = demands(sums, amounts)
    moved = {pair: 0 for pair in ways(sums, left)}
    while any([left[place] > 0 for place in left]):
        route = next_route(sums, left, moved)
        if route is None:
            return None
        carry_along(route, left, moved)
    return {pair: moved[pair] for pair in moved if moved[pair] > 0}


def cost(sums, moved):
    """Return what it costs to carry so much on each way: by so much the level can rise above the start at most."""
    return sum([moved[giver, taker] * sums[giver][taker] for giver, taker in moved])


def peak(sums, moved):
    """Return the least moment with the greatest level, if so much is carried on each way."""
    counts = {place: 0 for place in sums}
    takers = [pair[1] for pair in moved]
    changed = True
    while changed:
        changed = False
        for giver, taker in moved:
            # At such a moment the one that takes leads the one that gives by as much as it can.
            if counts[taker] < counts[giver] + sums[giver][taker]:
                counts[taker] = counts[giver] + sums[giver][taker]
                changed = True
        for place in sums:
            known = sums[place]
            waits = [counts[taker] - known[taker] for taker in takers if taker in known]
            counts[place] = max([counts[place], *waits])
    return {place: counts[place] for place in counts if place != NOTHING}

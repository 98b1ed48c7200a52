"""Levels within bounds: whether they are at all moments, and which starts, lags and further ties make them so."""

from pileups.carrying import carried, cost
from pileups.closing import NOTHING, closed_sums, tie_added
from pileups.errors import InvalidBounds, InvalidInteger, InvalidTies, NotSafe
from pileups.plans import need_plan, need_room, need_tie, ringed
from pileups.repeats import choices
from pileups.stocks import Stock, extreme, gain, need_fitting
from pileups.words import is_integer

MOST_BOUNDS = 8
MOST_FURTHER = 6


def is_bound(value):
    """Return True if a value is a tuple of a stock and two integers or None."""
    if not isinstance(value, tuple) or len(value) != 3 or not isinstance(value[0], Stock):
        return False
    return all([end is None or is_integer(end) for end in value[1:]])


def need_bounds(plan, bounds):
    """Raise what is wrong with a list of bounds of a plan."""
    if not isinstance(bounds, (list, tuple)) or len(bounds) > MOST_BOUNDS:
        raise InvalidBounds(bounds)
    for bound in bounds:
        if not is_bound(bound):
            raise InvalidBounds(bound)
        bound[0].need_fit(plan)


def capped(bounds):
    """Return bounds as stocks, each with its greatest right level: a stock that has a least one is turned round."""
    rows = []
    for stock, low, high in bounds:
        if high is not None:
            rows.append((stock, high))
        if low is not None:
            rows.append((-stock, -low))
    return rows


def above(sums, stock, most):
    """Return None if the level of a stock is never above a number, otherwise a moment at which it is."""
    highest, shown = extreme(sums, stock)
    if highest is not None:
        return shown if highest > most else None
    times = max(0, (most - stock.start) // gain(stock, shown) + 1)
    return {event: times if event in shown else 0 for event in sums if event != NOTHING}


def beyond_bounds(plan, bounds):
    """Return None if all bounds hold at all moments of a plan, otherwise a moment at which one does not."""
    sums = closed_sums(plan)
    for stock, most in capped(bounds):
        counts = above(sums, stock, most)
        if counts is not None:
            return counts
    return None


def safe(plan, bounds):
    """Return None if all bounds hold at all moments, otherwise a moment at which one does not."""
    need_plan(plan)
    need_bounds(plan, bounds)
    return beyond_bounds(plan, bounds)


def rise(sums, stock):
    """Return by how much a stock can rise above its start, or None if there is no greatest level."""
    moved = carried(sums, stock.amounts())
    return None if moved is None else cost(sums, moved)


def least_start(plan, stock, low):
    """Return the least start with which the level of a stock is never below a number, or None if there is none."""
    need_fitting(plan, stock)
    if not is_integer(low):
        raise InvalidInteger(low)
    fall = rise(closed_sums(plan), -stock)
    return None if fall is None else low + fall


def rise_with(sums, stock, tie, lag):
    """Return by how much a stock can rise if there is one tie more, and this tie has a lag."""
    earlier, later, told = tie
    return rise(tie_added(sums, (earlier, later, lag)), stock)


def least_lag(plan, tie):
    """Return the least lag that a further tie can have without making a ring of ties with the lag 0."""
    earlier, later, told = tie
    return 1 if ringed(plan.events(), [*plan.ties(), (earlier, later, 0)]) else 0


def greatest_lag_for(sums, tie, lag, stock, room):
    """Return the greatest lag with which a stock does not rise by more than there is room for, or None for any lag.

    The lag that is passed is one of those with which it does not.
    """
    while True:
        lower = rise_with(sums, stock, tie, lag)
        slope = rise_with(sums, stock, tie, lag + 1) - lower
        # With each greater lag the stock rises by no more than with the lag before: so from a slope of 0 on it stays
        # as it is, and as far as the slope leads, it does not rise above what the slope tells.
        if slope == 0:
            return None
        if room - lower < slope:
            return lag
        lag += (room - lower) // slope


def greatest_lag(plan, index, bounds):
    """Return the greatest lag of a tie with which all bounds hold, or None if they hold without the tie."""
    need_plan(plan)
    rest = plan.untied(index)
    need_bounds(plan, bounds)
    tie = plan.ties()[index]
    sums = closed_sums(rest)
    smallest = least_lag(rest, tie)
    rows = [(stock, most - stock.start) for stock, most in capped(bounds)]
    for stock, room in rows:
        risen = rise_with(sums, stock, tie, smallest)
        if risen is None or risen > room:
            raise NotSafe(index)
    lags = [greatest_lag_for(sums, tie, smallest, stock, room) for stock, room in rows]
    return min([lag for lag in lags if lag is not None], default=None)


def hold(sums, rows):
    """Return True if no stock rises above its greatest right level."""
    for stock, most in rows:
        risen = rise(sums, stock)
        if risen is None or stock.start + risen > most:
            return False
    return True


def need_further(plan, ties):
    """Raise what is wrong with a list of further ties of a plan."""
    if not isinstance(ties, (list, tuple)) or len(ties) > MOST_FURTHER:
        raise InvalidTies(ties)
    for tie in ties:
        need_tie(plan.events(), tie)
    need_room(len(plan.ties()) + len(ties))


def further(plan, bounds, ties):
    """Return the indexes of as few further ties as possible with which all bounds hold, or None if there are none."""
    need_plan(plan)
    need_bounds(plan, bounds)
    need_further(plan, ties)
    rows = capped(bounds)
    closed = {(): closed_sums(plan)}
    for choice in choices(list(range(len(ties)))):
        # A shorter choice stands ahead of a longer one, so what it adds to is there already, if it makes no ring.
        if choice and tuple(choice[:-1]) in closed:
            added = [ties[index] for index in choice]
            if not ringed(plan.events(), [*plan.ties(), *added]):
                closed[tuple(choice)] = tie_added(closed[tuple(choice[:-1])], added[-1])
        if tuple(choice) in closed and hold(closed[tuple(choice)], rows):
            return choice
    return None

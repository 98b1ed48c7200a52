"""What all functions with bounds of levels must refuse, and what the definition says of levels out of them."""

from by_hand import level_of
from odd_values import no_integers, no_names, odd_integers, odd_texts, odd_values
from pileups.errors import InvalidBounds, InvalidPlan, UnknownEvent
from pileups.plans import Plan
from pileups.stocks import Stock
from pileups.tables import Table


def no_plans():
    return [value for value in no_names() if not isinstance(value, Plan)] + [Stock(), "events a"]


def is_out(bounds, counts):
    """Return True if a level is out of its bounds, told in the words of the definition."""
    for stock, low, high in bounds:
        level = level_of(stock, counts)
        if (low is not None and level < low) or (high is not None and level > high):
            return True
    return False


def some_bounds(rng, events, many, most):
    """Return bounds of random stocks of events, some of them open."""
    rows = []
    for row in range(many):
        stock = Stock(rng.randint(-most, most), {event: rng.randint(-3, 3) for event in events if rng.random() < 0.8})
        ends = [rng.choice([None, stock.start + sign * rng.randint(-1, 2 * most)]) for sign in [-1, 1]]
        rows.append((stock, ends[0], ends[1]))
    return rows


def no_bound():
    """Return values that are no bound."""
    stock = Stock(1)
    wrong = odd_values() + odd_integers() + odd_texts()
    wrong.extend([[stock, 0, 1], (stock, 0), (stock, 0, 1, 2), (stock,), (0, stock, 1), ("0", 0, 1), (None, 0, 1),
                  stock])
    wrong.extend([(stock, value, 1) for value in no_integers() if value is not None])
    wrong.extend([(stock, 1, value) for value in no_integers() if value is not None])
    return wrong


def check_bounds(case, plan, call, ahead=(), behind=()):
    """A call with a plan, what stands ahead of the bounds, the bounds, and what stands behind, refuses wrong bounds.

    What stands behind may be wrong: it is not looked at before the bounds are right. The plan has an event a.
    """
    stock = Stock(1, {"a": 1})
    for value in no_plans():
        case.assert_keeps(InvalidPlan, "value", value, call, value, *[7 for item in ahead], 7, *behind)
    for value in odd_values() + odd_integers() + odd_texts() + [stock, Table(plan)]:
        if not isinstance(value, (list, tuple)):
            case.assert_keeps(InvalidBounds, "value", value, call, plan, *ahead, value, *behind)
    for long in [[(stock, None, None)] * 9, ((stock, None, None),) * 9, [7] * 9]:
        case.assert_keeps(InvalidBounds, "value", long, call, plan, *ahead, long, *behind)
    for value in no_bound():
        case.assert_keeps(InvalidBounds, "value", value, call, plan, *ahead, [value], *behind)
        case.assert_keeps(InvalidBounds, "value", value, call, plan, *ahead, ((stock, 0, 1), value, 7), *behind)
    strange = Stock(1, {"zb": 1, "a": 1, "za": -1, "y": 0})
    case.assert_raises(UnknownEvent, "name", "za", call, plan, *ahead, [(strange, 0, 1), 7], *behind)
    case.assert_raises(UnknownEvent, "name", "za", call, plan, *ahead, [(stock, 0, 1), (strange, None, None)], *behind)
    case.assert_raises(InvalidBounds, "value", 7, call, plan, *ahead, [7, (strange, 0, 1)], *behind)

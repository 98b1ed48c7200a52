"""Stocks: levels that change whenever an event comes, and the greatest and the least ones of all moments."""

from pileups.carrying import carried, peak
from pileups.closing import closed_sums
from pileups.errors import InvalidAmounts, InvalidInteger, InvalidStock, InvalidText, PlanError
from pileups.moments import behind, need_counts
from pileups.plans import need_event, need_plan
from pileups.repeats import pump
from pileups.words import is_integer, is_name, parse_integer, split_words, written


def is_amounts(value):
    """Return True if a value is a dict from names to integers."""
    if not isinstance(value, dict):
        return False
    return all([is_name(name) and is_integer(value[name]) for name in value])


def added(one, other):
    """Return the sums of the amounts of two dicts."""
    return {name: one.get(name, 0) + other.get(name, 0) for name in [*one, *other]}


def signed(number):
    """Return an integer other than 0 in decimal notation, with its sign."""
    return written(number) if number < 0 else f"+{written(number)}"


class Stock:
    """A level at the start and amounts of events, none of which ever changes."""

    def __init__(self, start=0, amounts=None):
        if not is_integer(start):
            raise InvalidInteger(start)
        if amounts is not None and not is_amounts(amounts):
            raise InvalidAmounts(amounts)
        told = {} if amounts is None else amounts
        self.origin = start
        self.changes = {name: told[name] for name in told if told[name] != 0}

    @property
    def start(self):
        """Return the level at the start."""
        return self.origin

    def amounts(self):
        """Return the dict of the amounts other than 0."""
        return dict(self.changes)

    def amount(self, event):
        """Return the amount of any event, 0 if it has none."""
        return self.changes[event] if isinstance(event, str) and event in self.changes else 0

    def need_fit(self, plan):
        """Raise UnknownEvent if an event with an amount is none of a plan."""
        need_plan(plan)
        for name in sorted(self.changes):
            need_event(plan.events(), name)

    def __eq__(self, other):
        return isinstance(other, Stock) and self.origin == other.origin and self.changes == other.changes

    def __add__(self, other):
        need_stock(other)
        return Stock(self.origin + other.origin, added(self.changes, other.changes))

    def __sub__(self, other):
        need_stock(other)
        return self + -other

    def __neg__(self):
        return Stock(-self.origin, {name: -self.changes[name] for name in self.changes})

    def __str__(self):
        parts = [written(self.origin)]
        parts.extend([f"{signed(self.changes[name])} {name}" for name in sorted(self.changes)])
        return " ".join(parts)

    def __repr__(self):
        return f"<Stock {str(self)}>"


def need_stock(stock):
    """Raise InvalidStock for a value that is no stock."""
    if not isinstance(stock, Stock):
        raise InvalidStock(stock)


def need_fitting(plan, stock):
    """Raise what is wrong with a plan and a stock of its events."""
    need_plan(plan)
    need_stock(stock)
    stock.need_fit(plan)


def read_amounts(words):
    """Return the amounts that words tell, right or wrong: numbers and events by turns."""
    numbers = [parse_integer(word.removeprefix("+")) for word in words[::2]]
    return dict(zip(words[1::2], numbers))


def read_stock(text):
    """Return the stock with this text."""
    words = split_words(text)
    if words is None:
        raise InvalidText(text)
    first, *others = words
    try:
        stock = Stock(parse_integer(first), read_amounts(others))
    except PlanError:
        raise InvalidText(text) from None
    # A stock has just one text: this bars signs, an order and words that str() does not tell.
    if str(stock) != text:
        raise InvalidText(text)
    return stock


def level_at(stock, counts):
    """Return the level of a stock at counts of its events."""
    return stock.start + sum([stock.amount(event) * counts[event] for event in counts])


def level(plan, stock, counts):
    """Return the level of a stock at counts of a plan."""
    need_fitting(plan, stock)
    need_counts(plan, counts)
    return level_at(stock, counts)


def levels(plan, stock, run):
    """Return the levels of a stock along a run: the start, then the level behind each event."""
    need_fitting(plan, stock)
    behind(plan, run)
    told = [stock.start]
    for event in run:
        told.append(told[-1] + stock.amount(event))
    return told


def gain(stock, events):
    """Return by how much a stock changes if each of these events comes once."""
    return sum([stock.amount(event) for event in events])


def extreme(sums, stock):
    """Return what greatest does for a stock of the events of a plan with these closed sums."""
    moved = carried(sums, stock.amounts())
    if moved is None:
        return (None, pump(sums, stock.amounts()))
    counts = peak(sums, moved)
    return (level_at(stock, counts), counts)


def greatest(plan, stock):
    """Return the greatest level and a moment that has it, or None and events that raise the level for ever."""
    need_fitting(plan, stock)
    return extreme(closed_sums(plan), stock)


def least(plan, stock):
    """Return the least level and a moment that has it, or None and events that lower the level for ever."""
    need_fitting(plan, stock)
    highest, shown = extreme(closed_sums(plan), -stock)
    return (None if highest is None else -highest, shown)

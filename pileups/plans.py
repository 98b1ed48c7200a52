"""Plans: events that come again and again, the ties by which they wait, and their limits."""

from pileups.errors import Duplicate, InvalidEvents, InvalidInteger, InvalidLimits, InvalidName, InvalidNames
from pileups.errors import InvalidPlan, InvalidText, InvalidTie, InvalidTies, MissingError, NoTie, PlanError, Ring
from pileups.errors import TooMany, UnknownEvent, UnlikeEvents
from pileups.words import is_count, is_integer, is_name, parse_integer, split_words, written

MOST_EVENTS = 8
MOST_TIES = 60


def need_events(events):
    """Raise what is wrong with a list of the events of a plan."""
    if not isinstance(events, (list, tuple)) or not 1 <= len(events) <= MOST_EVENTS:
        raise InvalidEvents(events)
    for index, event in enumerate(events):
        if not is_name(event):
            raise InvalidName(event)
        if event in events[:index]:
            raise Duplicate(event)


def need_event(events, event):
    """Raise UnknownEvent for a value that is none of the events."""
    if event not in events:
        raise UnknownEvent(event)


def need_tie(events, tie):
    """Raise what is wrong with a tie of these events."""
    if not isinstance(tie, tuple) or len(tie) != 3:
        raise InvalidTie(tie)
    earlier, later, lag = tie
    need_event(events, earlier)
    need_event(events, later)
    if not is_count(lag):
        raise InvalidInteger(lag)


def need_ties(events, ties):
    """Raise what is wrong with a list of the ties of a plan with these events."""
    if not isinstance(ties, (list, tuple)) or len(ties) > MOST_TIES:
        raise InvalidTies(ties)
    for tie in ties:
        need_tie(events, tie)


def need_limits(events, limits):
    """Raise InvalidLimits unless a value is None or a dict of limits of these events."""
    if limits is None:
        return
    if not isinstance(limits, dict):
        raise InvalidLimits(limits)
    for event in limits:
        if event not in events or not is_count(limits[event]):
            raise InvalidLimits(limits)


def need_room(many):
    """Raise TooMany if a plan cannot have so many ties."""
    if many > MOST_TIES:
        raise TooMany(MOST_TIES)


def ringed(events, ties):
    """Return the events, in order, that lie on a ring of ties with the lag 0."""
    reached = {(earlier, later): True for earlier, later, lag in ties if lag == 0}
    # The event in the middle stands in the outermost loop: only so one pass finds all that is reached.
    for middle in events:
        before = [first for first in events if (first, middle) in reached]
        beyond = [last for last in events if (middle, last) in reached]
        for first in before:
            for last in beyond:
                reached[first, last] = True
    return [event for event in events if (event, event) in reached]


def lesser_limits(one, other):
    """Return the lesser limit of each event that has a limit in one of two dicts."""
    limits = dict(one)
    for event in other:
        limits[event] = min(other[event], limits.get(event, other[event]))
    return limits


class Plan:
    """Events, ties and limits, none of which ever changes."""

    def __init__(self, events, ties=(), *, limits=None):
        need_events(events)
        need_ties(events, ties)
        need_limits(events, limits)
        members = ringed(events, ties)
        if members:
            raise Ring(members)
        self.order = tuple(events)
        self.rows = tuple(ties)
        self.caps = {} if limits is None else dict(limits)

    def events(self):
        """Return the list of the events."""
        return list(self.order)

    def ties(self):
        """Return the list of the ties."""
        return list(self.rows)

    def limits(self):
        """Return the dict of the limits."""
        return dict(self.caps)

    def limit(self, event):
        """Return the limit of an event, or None if it has none."""
        need_event(self.order, event)
        return self.caps.get(event)

    def __len__(self):
        return len(self.order)

    def __contains__(self, value):
        return isinstance(value, str) and value in self.order

    def __eq__(self, other):
        return (isinstance(other, Plan) and self.order == other.order
                and self.rows == other.rows and self.caps == other.caps)

    def __str__(self):
        parts = [" ".join(["events", *self.order])]
        parts.extend([f"tie {earlier} {later} {written(lag)}" for earlier, later, lag in self.rows])
        parts.extend([f"limit {event} {written(self.caps[event])}" for event in self.order if event in self.caps])
        return "; ".join(parts)

    def __repr__(self):
        return f"<Plan {str(self)}>"

    def tied(self, earlier, later, lag):
        """Return the plan with one tie more, behind the others."""
        tie = (earlier, later, lag)
        need_tie(self.order, tie)
        need_room(len(self.rows) + 1)
        return Plan(self.order, [*self.rows, tie], limits=self.caps)

    def untied(self, index):
        """Return the plan without the tie with an index."""
        if not is_integer(index) or not 0 <= index < len(self.rows):
            raise NoTie(index)
        ties = [tie for place, tie in enumerate(self.rows) if place != index]
        return Plan(self.order, ties, limits=self.caps)

    def limited(self, event, limit):
        """Return the plan in which an event has this limit, or none if it is None."""
        need_event(self.order, event)
        if limit is not None and not is_count(limit):
            raise InvalidInteger(limit)
        limits = {name: self.caps[name] for name in self.caps if name != event}
        if limit is not None:
            limits[event] = limit
        return Plan(self.order, self.rows, limits=limits)

    def both(self, other):
        """Return the plan whose moments are those of both plans."""
        need_like(self.events(), other)
        ties = [*self.rows, *other.rows]
        need_room(len(ties))
        return Plan(self.order, ties, limits=lesser_limits(self.caps, other.caps))


def need_plan(plan):
    """Raise InvalidPlan for a value that is no plan."""
    if not isinstance(plan, Plan):
        raise InvalidPlan(plan)


def need_like(events, plan):
    """Raise what is wrong with a plan that must have these events, in this order."""
    need_plan(plan)
    if plan.events() != events:
        raise UnlikeEvents(plan.events())


def need_different(plan, names):
    """Raise what is wrong with the items of a list of different events of a plan."""
    for index, name in enumerate(names):
        need_event(plan.events(), name)
        if name in names[:index]:
            raise Duplicate(name)


def need_names(plan, names):
    """Raise what is wrong with a list of one or more different events of a plan."""
    if not isinstance(names, (list, tuple)) or not names:
        raise InvalidNames(names)
    need_different(plan, names)


def read_parts(text):
    """Return events, ties and limits as a text tells them, right or wrong, or None if it has another form."""
    first, *others = [split_words(part) for part in text.split("; ")]
    if first is None or first[0] != "events":
        return None
    ties = []
    limits = {}
    for words in others:
        if words is not None and words[0] == "tie" and len(words) == 4:
            ties.append((words[1], words[2], parse_integer(words[3])))
        elif words is not None and words[0] == "limit" and len(words) == 3:
            limits[words[1]] = parse_integer(words[2])
        else:
            return None
    return (first[1:], ties, limits)


def read_plan(text):
    """Return the plan with this text."""
    parts = read_parts(text) if isinstance(text, str) else None
    if parts is None:
        raise InvalidText(text)
    events, ties, limits = parts
    try:
        plan = Plan(events, ties, limits=limits)
    except (PlanError, MissingError):
        raise InvalidText(text) from None
    # A plan has just one text: this bars parts in another order, and limits that are told twice.
    if str(plan) != text:
        raise InvalidText(text)
    return plan

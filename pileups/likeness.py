"""Plans held against one another: the same moments, needless ties, hidden events, and plans that span two others."""

from pileups.errors import Duplicate, InvalidNames
from pileups.plans import Plan, need_event, need_like, need_plan
from pileups.tables import NOTHING, Table


def total(counts):
    """Return the sum of counts."""
    return sum(list(counts.values()))


def is_above(greatest, bound):
    """Return True if something that grows to a greatest number, or to none, goes beyond a bound."""
    return greatest is None or greatest > bound


def breaches(table, plan):
    """Return, for each tie and limit of a plan that moments of a table break, the least one of these moments."""
    ties = [tie for tie in plan.ties() if is_above(table.lead(tie[0], tie[1]), tie[2])]
    found = [table.least(later, lag + 1) for earlier, later, lag in ties]
    for event in plan.events():
        limit = plan.limit(event)
        if limit is not None and is_above(table.most(event), limit):
            found.append(table.least(event, limit + 1))
    return found


def need_alike_events(one, other):
    """Raise what is wrong with two plans that must have the same events."""
    need_plan(one)
    need_like(one.events(), other)


def within(one, other):
    """Return None if each moment of one plan is one of the other, or a smallest moment that is not."""
    need_alike_events(one, other)
    return min(breaches(Table(one), other), key=total, default=None)


def alike(one, other):
    """Return None if two plans have the same moments, or a smallest moment of one alone, and which one has it."""
    alone = [(within(one, other), 0), (within(other, one), 1)]
    found = [(counts, which) for counts, which in alone if counts is not None]
    return min(found, key=lambda row: total(row[0]), default=None)


def follows(plan, index):
    """Return True if the tie with an index follows from the other ties."""
    earlier, later, lag = plan.ties()[index]
    return not is_above(Table(plan.untied(index)).lead(earlier, later), lag)


def needless(plan):
    """Return the indexes of the ties that follow from all other ties."""
    need_plan(plan)
    return [index for index in range(len(plan.ties())) if follows(plan, index)]


def fewest(plan):
    """Return the indexes of the ties that stay if needless ones are left out, from the last one to the first one."""
    need_plan(plan)
    rest = plan
    stay = []
    for index in reversed(range(len(plan.ties()))):
        # Only ties behind this one have been left out, so its index is still the same.
        if follows(rest, index):
            rest = rest.untied(index)
        else:
            stay.insert(0, index)
    return stay


def spare(plan):
    """Return a plan without its needless ties."""
    ties = plan.ties()
    return Plan(plan.events(), [ties[index] for index in fewest(plan)], limits=plan.limits())


def plan_of(events, sums):
    """Return the plan in which the pairs of places of a closed table have these sums, or none."""
    limits = {event: sums[NOTHING, event] for event in events if (NOTHING, event) in sums}
    pairs = [(earlier, later) for earlier in events for later in events if earlier != later]
    # What the limit alone bars needs no tie; ties of events that never come would make a ring.
    told = [pair for pair in pairs if pair in sums and is_above(limits.get(pair[1]), sums[pair])]
    return spare(Plan(events, [(earlier, later, sums[earlier, later]) for earlier, later in told], limits=limits))


def need_different(plan, names):
    """Raise what is wrong with the items of a list of different events of a plan."""
    for index, name in enumerate(names):
        need_event(plan.events(), name)
        if name in names[:index]:
            raise Duplicate(name)


def need_names(plan, names):
    """Raise what is wrong with a list of one or more different events of a plan."""
    if not isinstance(names, (list, tuple)) or not names:
        raise InvalidNames(names)
    need_different(plan, names)


def seen(plan, names):
    """Return the plan of some events whose runs are what is left of the runs of a plan."""
    need_plan(plan)
    need_names(plan, names)
    return plan_of([event for event in plan.events() if event in names], Table(plan).sums)


def spanned(one, other):
    """Return the plan with the fewest moments that has all moments of two plans."""
    need_alike_events(one, other)
    sums, others = Table(one).sums, Table(other).sums
    return plan_of(one.events(), {pair: max(sums[pair], others[pair]) for pair in sums if pair in others})

"""Plans held against one another: the same moments, needless ties, hidden events, and plans that span two others."""

from pileups.closing import NOTHING, closed_sums, least_moment
from pileups.plans import Plan, need_like, need_names, need_plan


def total(counts):
    """Return the sum of counts."""
    return sum(list(counts.values()))


def is_above(greatest, bound):
    """Return True if something that grows to a greatest number, or to none, goes beyond a bound."""
    return greatest is None or greatest > bound


def breaches(sums, plan):
    """Return, for each tie and limit of a plan that moments with closed sums break, the least one of these moments."""
    most = sums[NOTHING]
    limits = plan.limits()
    ties = [tie for tie in plan.ties() if is_above(sums[tie[0]].get(tie[1]), tie[2])]
    found = [least_moment(sums, later, lag + 1) for earlier, later, lag in ties]
    broken = [event for event in plan.events() if event in limits and is_above(most.get(event), limits[event])]
    return [*found, *[least_moment(sums, event, limits[event] + 1) for event in broken]]


def need_alike_events(one, other):
    """Raise what is wrong with two plans that must have the same events."""
    need_plan(one)
    need_like(one.events(), other)


def beyond(sums, plan):
    """Return None if each moment with closed sums is one of a plan, or a smallest moment that is not."""
    return min(breaches(sums, plan), key=total, default=None)


def within(one, other):
    """Return None if each moment of one plan is one of the other, or a smallest moment that is not."""
    need_alike_events(one, other)
    return beyond(closed_sums(one), other)


def alike(one, other):
    """Return None if two plans have the same moments, or a smallest moment of one alone, and which one has it."""
    need_alike_events(one, other)
    alone = [(beyond(closed_sums(one), other), 0), (beyond(closed_sums(other), one), 1)]
    found = [(counts, which) for counts, which in alone if counts is not None]
    return min(found, key=lambda row: total(row[0]), default=None)


def free_steps(limits, events):
    """Return what bars leads beside ties, told as ties are: limits, and that no event comes less than 0 times."""
    return [*[(NOTHING, event, limits[event]) for event in limits], *[(event, NOTHING, 0) for event in events]]


def leads_round(sums, tie):
    """Return True if a way through another place bars just as much as a tie does."""
    earlier, later, lag = tie
    ahead = sums[earlier]
    places = [place for place in ahead if later in sums[place] and place not in (earlier, later)]
    return any([ahead[place] + sums[place][later] == lag for place in places])


def is_reached(steps, first, last):
    """Return True if steps lead from one place to another one."""
    reached = {first: True}
    found = [first]
    while found:
        found = [further for place, further in steps if place in reached and further not in reached]
        for place in found:
            reached[place] = True
    return last in reached


def follows(sums, others, tie):
    """Return True if a tie follows from other steps, where closed sums are those of all of them."""
    earlier, later, lag = tie
    if sums[earlier][later] < lag or tie in others:
        return True
    if not leads_round(sums, tie):
        return False
    # The way round may take the tie itself, where events never come. So it is looked for without the tie: it consists
    # of steps that lie on some way that bars just as much, and any steps of this kind make such a way.
    ahead = sums[earlier]
    steps = [(first, last) for first, last, added in others if first in ahead and later in sums[last]
             and ahead[first] + added + sums[last][later] == lag]
    return is_reached(steps, earlier, later)


def needless(plan):
    """Return the indexes of the ties that follow from all other ties."""
    need_plan(plan)
    sums = closed_sums(plan)
    ties = plan.ties()
    free = free_steps(plan.limits(), plan.events())
    return [index for index, tie in enumerate(ties) if follows(sums, [*ties[:index], *ties[index + 1:], *free], tie)]


def staying(sums, ties, free):
    """Return the indexes of the ties that stay if needless ones are left out, from the last one to the first one."""
    stay = list(range(len(ties)))
    for index in reversed(range(len(ties))):
        others = [*[ties[place] for place in stay if place != index], *free]
        # What is left out follows from what stays, so the closed sums remain the same.
        if follows(sums, others, ties[index]):
            stay.remove(index)
    return stay


def fewest(plan):
    """Return the indexes of the ties that stay if needless ones are left out, from the last one to the first one."""
    need_plan(plan)
    return staying(closed_sums(plan), plan.ties(), free_steps(plan.limits(), plan.events()))


def plan_of(events, sums):
    """Return the plan, without needless ties, that has these closed sums between its events."""
    most = sums[NOTHING]
    limits = {event: most[event] for event in events if event in most}
    pairs = [(earlier, later) for earlier in events for later in events if earlier != later]
    # What the limit alone bars needs no tie; ties of events that never come would make a ring.
    told = [(earlier, later, sums[earlier][later]) for earlier, later in pairs if later in sums[earlier]]
    ties = [tie for tie in told if is_above(limits.get(tie[1]), tie[2])]
    return Plan(events, [ties[index] for index in staying(sums, ties, free_steps(limits, events))], limits=limits)


def seen(plan, names):
    """Return the plan of some events whose runs are what is left of the runs of a plan."""
    need_plan(plan)
    need_names(plan, names)
    sums = closed_sums(plan)
    events = [event for event in plan.events() if event in names]
    places = [NOTHING, *events]
    left = {first: {last: sums[first][last] for last in places if last in sums[first]} for first in places}
    return plan_of(events, left)


def spanned(one, other):
    """Return the plan with the fewest moments that has all moments of two plans."""
    need_alike_events(one, other)
    sums = closed_sums(one)
    others = closed_sums(other)
    # A lead that is barred in both plans is barred by the greater number in all plans that have the moments of both.
    wider = {first: {last: max(sums[first][last], others[first][last]) for last in sums[first] if last in others[first]}
             for first in sums}
    return plan_of(one.events(), wider)

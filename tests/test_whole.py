"""Promises [7], [8] and [9] over the whole program: equal answers, arguments by name, and answers that agree."""

import inspect
import itertools
import random
import unittest

from by_hand import all_counts, far_plans, keeps, level_of, like_plans, small_plans
from pileups import endless, flows, guards, learnt, likeness, logs, moments, safety, sightings, stocks, tables, together
from pileups.desk import Desk
from pileups.errors import MissingError, PlanError, StateError
from pileups.plans import Plan, read_plan
from pileups.stocks import Stock

EVENTS = ["b", "a", "c"]


def turned(values):
    """Return an equal dict whose keys stand in the opposite order."""
    return dict(list(values.items())[::-1])


def plan_of(kind, ties, limits):
    """Return a plan of the three events, made in one of two ways from equal arguments."""
    if kind == 0:
        return Plan(EVENTS, ties, limits=limits)
    return Plan(tuple(EVENTS), tuple(ties), limits=turned(limits))


def stock_of(kind, start, amounts):
    return Stock(start, amounts if kind == 0 else turned(amounts))


def counts_of(kind, counts):
    return counts if kind == 0 else turned(counts)


def row_of(kind, items):
    return list(items) if kind == 0 else tuple(items)


def calls(kind, seed):
    """Return calls of all functions of the package, with arguments that are equal for both kinds."""
    rng = random.Random(seed)
    plans = []
    for place in range(2):
        plan = rng.choice(like_plans())
        plans.append(plan_of(kind, plan.ties(), plan.limits()))
    plan, other = plans
    held = stock_of(kind, rng.randint(-3, 3), {event: rng.randint(-2, 2) for event in EVENTS})
    bounds = row_of(kind, [(held, held.start - rng.randint(0, 2), held.start + rng.randint(0, 4))])
    names = row_of(kind, rng.sample(EVENTS, 2))
    log = row_of(kind, [rng.choice(names) for step in range(rng.randint(0, 3))])
    more = row_of(kind, [rng.choice(names) for step in range(rng.randint(0, 3))])
    run = row_of(kind, [rng.choice(EVENTS) for step in range(rng.randint(0, 4))])
    ties = row_of(kind, [(rng.choice(EVENTS), rng.choice(EVENTS), rng.randint(0, 2)) for tie in range(3)])
    counts = counts_of(kind, {event: rng.randint(0, 2) for event in EVENTS})
    near = counts_of(kind, {event: rng.randint(0, 1) for event in EVENTS})
    one, two = rng.choice(EVENTS), rng.choice(EVENTS)
    k, j = rng.randint(1, 3), rng.randint(1, 3)
    low, high = counts_of(kind, {one: 1, two: 0}), counts_of(kind, {two: 2, one: 3})
    return [
        (moments.is_counts, dict(plan=plan, value=counts)), (moments.is_moment, dict(plan=plan, counts=counts)),
        (moments.barred, dict(plan=plan, counts=counts)), (moments.come, dict(plan=plan, counts=near)),
        (moments.came, dict(plan=plan, counts=counts)), (moments.behind, dict(plan=plan, run=run, begin=near)),
        (moments.run_to, dict(plan=plan, counts=counts, begin=near)),
        (moments.higher, dict(plan=plan, one=counts, other=near)),
        (moments.lower, dict(plan=plan, one=counts, other=near)),
        (tables.Table(plan).lead, dict(earlier=one, later=two)), (tables.Table(plan).most, dict(event=one)),
        (tables.Table(plan).chain, dict(earlier=one, later=two)), (tables.Table(plan).held, dict(event=one)),
        (tables.Table(plan).least, dict(event=one, count=k)), (tables.Table(plan).shown, dict(earlier=one, later=two)),
        (likeness.within, dict(one=plan, other=other)), (likeness.alike, dict(one=plan, other=other)),
        (likeness.needless, dict(plan=plan)), (likeness.fewest, dict(plan=plan)),
        (likeness.seen, dict(plan=plan, names=names)), (likeness.spanned, dict(one=plan, other=other)),
        (stocks.level, dict(plan=plan, stock=held, counts=counts)),
        (stocks.levels, dict(plan=plan, stock=held, run=run)),
        (stocks.greatest, dict(plan=plan, stock=held)), (stocks.least, dict(plan=plan, stock=held)),
        (flows.flow, dict(plan=plan, stock=held)), (flows.pumps, dict(plan=plan)),
        (flows.is_pump, dict(plan=plan, stock=held, value=names)),
        (flows.is_flow, dict(plan=plan, stock=held, bound=k, value=([0], {}))),
        (safety.safe, dict(plan=plan, bounds=bounds)), (safety.least_start, dict(plan=plan, stock=held, low=-k)),
        (safety.greatest_lag, dict(plan=plan, index=0, bounds=bounds)),
        (safety.further, dict(plan=plan, bounds=bounds, ties=ties)),
        (sightings.Sighting(plan, low=low, high=high).least, dict(event=one)),
        (sightings.Sighting(plan, low=low, high=high).greatest, dict(event=one)),
        (sightings.Sighting(plan, low=low, high=high).lead, dict(earlier=one, later=two)),
        (sightings.Sighting(plan, low=low, high=high).least_counts, {}),
        (sightings.Sighting(plan, low=low, high=high).greatest_counts, {}),
        (sightings.is_sure, dict(plan=plan, earlier=one, k=k, later=two, j=j)),
        (sightings.otherwise, dict(plan=plan, earlier=one, k=k, later=two, j=j)),
        (logs.misfit, dict(plan=plan, names=names, log=log)), (logs.coming, dict(plan=plan, names=names, log=log)),
        (logs.filled, dict(plan=plan, names=names, log=log)), (logs.future, dict(plan=plan, names=names, log=log)),
        (logs.parting, dict(plan=plan, names=names, one=log, other=more)),
        (endless.endless, dict(plan=plan)), (endless.groups, dict(plan=plan)),
        (endless.closed, dict(plan=plan, events=names)), (endless.sums, dict(plan=plan, stock=held)),
        (endless.is_bounded, dict(plan=plan, stock=held)),
        (learnt.learnt, dict(events=row_of(kind, EVENTS), logs=row_of(kind, [run, log]))),
        (learnt.is_told, dict(plan=plan, logs=row_of(kind, [run, log]))), (learnt.teaching, dict(plan=plan)),
        (guards.remaining, dict(plan=plan, counts=near)),
        (guards.outburst, dict(plan=plan, bounds=bounds, ours=names, counts=near)),
        (guards.may_come, dict(plan=plan, bounds=bounds, ours=names, counts=near)),
        (guards.unguarded, dict(plan=plan, bounds=bounds, ours=names, run=run)),
        (together.composed, dict(one=plan, other=other)), (together.held_back, dict(one=plan, other=other)),
        (together.renaming, dict(one=plan, other=other)),
    ]


def answer(call):
    """Return what a call returns, or the class and the fields of what it raises."""
    function, named = call
    try:
        return function(**named)
    except (PlanError, MissingError, StateError) as error:
        return [error.__class__.__name__, [list(value) if isinstance(value, tuple) else value
                                           for value in vars(error).values()]]


def shown(value):
    """Return a string that tells all of an answer, but not the order of the keys of dicts."""
    if isinstance(value, dict):
        return str(sorted((key, shown(value[key])) for key in value))
    if isinstance(value, (list, tuple)):
        return f"{value.__class__.__name__}({', '.join(shown(item) for item in value)})"
    return f"{value.__class__.__name__} {value}"


class TestEqualArguments(unittest.TestCase):
    def test_equal_answers_for_equal_arguments(self):
        raised = {}
        for seed in range(60):
            for one, other in zip(calls(0, seed), calls(1, seed)):
                first, second = answer(one), answer(other)
                self.assertEqual(shown(first), shown(second), (one, other))
                # Each function is asked what it can tell at least once: what is raised is told by a list with a class.
                is_raised = isinstance(first, list) and str(first[:1])[2:3].isupper()
                raised.setdefault(one[0].__name__, []).append(is_raised)
        self.assertEqual([name for name in raised if all(raised[name])], [])

    def test_answers_do_not_depend_on_what_was_asked_before(self):
        for seed in range(25):
            rows = calls(0, seed)
            onward = [shown(answer(call)) for call in rows]
            back = [shown(answer(call)) for call in rows[::-1]][::-1]
            fresh = [shown(answer(call)) for call in calls(0, seed)]
            self.assertEqual([onward, onward], [back, fresh])

    def test_arguments_stay_as_they_are(self):
        for seed in range(25):
            rows = calls(0, seed)
            before = [shown(named) for function, named in rows]
            for call in rows:
                answer(call)
            self.assertEqual([shown(named) for function, named in rows], before)
            self.assertEqual([shown(named) for function, named in calls(0, seed)], before)

    def test_what_is_returned_may_be_modified(self):
        for seed in range(25):
            rows = calls(0, seed)
            before = [shown(answer(call)) for call in rows]
            for function, named in rows:
                # What is raised keeps the very arguments, so only what is returned is changed here.
                try:
                    spoil(function(**named))
                except (PlanError, MissingError, StateError):
                    continue
            self.assertEqual([shown(answer(call)) for call in rows], before)

    def test_arguments_by_position(self):
        for seed in range(10):
            for function, named in calls(0, seed):
                kinds = inspect.signature(function).parameters
                positional = [named[name] for name in kinds if kinds[name].kind != inspect.Parameter.KEYWORD_ONLY]
                rest = {name: named[name] for name in kinds if kinds[name].kind == inspect.Parameter.KEYWORD_ONLY}
                self.assertEqual(shown(answer((lambda: function(*positional, **rest), {}))),
                                 shown(answer((function, named))))


def spoil(value):
    """Change all lists and dicts in a value."""
    if isinstance(value, (list, tuple)):
        for item in value:
            spoil(item)
    if isinstance(value, dict):
        for item in value.values():
            spoil(item)
        value.clear()
    if isinstance(value, list):
        value.append("spoilt")


class TestAgreement(unittest.TestCase):
    def plans(self):
        return small_plans() + like_plans() + far_plans()[:30]

    def test_moments_and_runs(self):
        for plan in small_plans() + like_plans():
            for counts in all_counts(plan, 2):
                self.assertIs(moments.barred(plan, counts) is None, keeps(plan, counts))
                if keeps(plan, counts):
                    self.assertEqual(moments.behind(plan, moments.run_to(plan, counts)), counts)

    def test_leads_levels_and_flows(self):
        for plan in self.plans():
            table = tables.Table(plan)
            for earlier, later in itertools.permutations(plan.events(), 2):
                ahead = Stock(0, {later: 1, earlier: -1})
                lead = table.lead(earlier, later)
                self.assertEqual(stocks.greatest(plan, ahead)[0], lead)
                found = flows.flow(plan, ahead)
                self.assertIs(found is None, lead is None)
                if lead is not None:
                    self.assertTrue(flows.is_flow(plan, ahead, lead, found))
                    self.assertEqual(stocks.least(plan, -ahead)[0], -lead)
                    self.assertEqual(level_of(ahead, table.shown(earlier, later)), lead)
                    self.assertEqual(safety.safe(plan, [(ahead, None, lead)]), None)
                else:
                    self.assertTrue(flows.is_pump(plan, ahead, stocks.greatest(plan, ahead)[1]))
            for event in plan.events():
                self.assertEqual(stocks.greatest(plan, Stock(0, {event: 1}))[0], table.most(event))
                self.assertIs(event in endless.endless(plan), table.most(event) is None)

    def test_stocks_flows_pumps_and_groups(self):
        rng = random.Random(9)
        for plan in self.plans():
            for turn in range(3):
                held = Stock(rng.randint(-9, 9), {event: rng.randint(-2, 2) for event in plan.events()})
                level, told = stocks.greatest(plan, held)
                self.assertIs(flows.flow(plan, held) is None, level is None)
                if level is None:
                    self.assertTrue(flows.is_pump(plan, held, told))
                    self.assertIn(told, flows.pumps(plan))
                    self.assertIs(endless.is_bounded(plan, held), False)
                else:
                    self.assertEqual(stocks.level(plan, held, told), level)
                    self.assertTrue(moments.is_moment(plan, told))
                    self.assertTrue(flows.is_flow(plan, held, level, flows.flow(plan, held)))
                    self.assertEqual(safety.least_start(plan, -held, -level), -held.start)

    def test_sightings_orders_and_tables(self):
        rng = random.Random(10)
        for plan in self.plans():
            table = tables.Table(plan)
            for earlier, later in itertools.product(plan.events(), repeat=2):
                count = rng.randint(1, 4)
                told = sightings.Sighting(plan, low={later: count})
                shown_one = table.least(later, count)
                self.assertEqual(told.least_counts() if told.is_possible() else None, shown_one)
                k = rng.randint(1, 4)
                both = told.narrowed(earlier, high=k - 1)
                self.assertIs(sightings.is_sure(plan, earlier, k, later, count), not both.is_possible())
                if both.is_possible():
                    self.assertEqual(both.least_counts(), sightings.otherwise(plan, earlier, k, later, count))

    def test_logs_runs_and_futures(self):
        rng = random.Random(11)
        for plan in self.plans():
            run = []
            for step in range(12):
                able = moments.come(plan, moments.behind(plan, run))
                run.extend(able and [rng.choice(able)])
            everything = plan.events()
            self.assertIs(logs.misfit(plan, everything, run), None)
            self.assertEqual([logs.filled(plan, everything, run), logs.coming(plan, everything, run)],
                             [run, moments.come(plan, moments.behind(plan, run))])
            rest = guards.remaining(plan, moments.behind(plan, run))
            self.assertIs(likeness.alike(rest, logs.future(plan, everything, run)), None)
            names = rng.sample(everything, rng.randint(1, len(everything)))
            log = [event for event in run if event in names]
            self.assertIs(logs.misfit(plan, names, log), None)
            self.assertIs(logs.parting(plan, names, log, log), None)
            self.assertEqual(logs.coming(plan, names, log), moments.come(logs.future(plan, names, log), dict.fromkeys(
                [event for event in everything if event in names], 0)))

    def test_plans_told_back_and_together(self):
        rng = random.Random(12)
        for plan in self.plans():
            self.assertEqual(read_plan(str(plan)), plan)
            self.assertIs(likeness.alike(plan, likeness.spanned(plan, plan)), None)
            if not endless.endless(plan):
                try:
                    runs = learnt.teaching(plan)
                except StateError:
                    continue
                self.assertIs(likeness.alike(learnt.learnt(plan.events(), runs), plan), None)
            if len(plan.ties()) <= 30:
                self.assertIs(likeness.alike(together.composed(plan, plan), plan), None)
                self.assertIs(together.held_back(plan, plan), None)
            names = rng.sample(plan.events(), rng.randint(1, len(plan)))
            part = likeness.seen(plan, names)
            if len(part.ties()) + len(plan.ties()) <= 60:
                self.assertIs(together.held_back(plan, part), None)
                self.assertIs(together.held_back(part, plan), None)
            same = together.renaming(plan, likeness.spanned(plan, plan))
            self.assertEqual(sorted(same), sorted(plan.events()))

    def test_guards_and_bounds(self):
        rng = random.Random(13)
        for plan in self.plans():
            nothing = dict.fromkeys(plan.events(), 0)
            held = Stock(0, {event: rng.randint(-2, 2) for event in plan.events()})
            level = stocks.greatest(plan, held)[0]
            bounds = [(held, None, 5 if level is None else level - rng.randint(0, 1))]
            self.assertIs(guards.outburst(plan, bounds, [], nothing) is None, safety.safe(plan, bounds) is None)
            if safety.safe(plan, bounds) is None:
                self.assertEqual(guards.may_come(plan, bounds, plan.events(), nothing), moments.come(plan, nothing))
                self.assertEqual(safety.further(plan, bounds, []), [])

    def test_desks_and_functions(self):
        for plan in self.plans():
            desk = Desk()
            desk.put("p", plan)
            desk.begin("p")
            self.assertEqual(desk.run("show p"), str(plan))
            for event in plan.events()[:2]:
                ahead = Stock(0, {event: 1, plan.events()[-1]: -2})
                desk.put("s", ahead)
                found = stocks.greatest(plan, ahead)
                self.assertEqual(desk.run("greatest p s").split()[0], "endless" if found[0] is None else str(found[0]))
            able = moments.come(plan, desk.counts())
            self.assertEqual(desk.run("come"), " ".join(able) if able else "none")


if __name__ == "__main__":
    unittest.main()

"""Promises [21], [22], [23] and [24]: plans."""

import itertools
import unittest

from odd_values import no_counts, no_names, odd_integers, odd_values
from pileups.errors import Duplicate, InvalidEvents, InvalidInteger, InvalidLimits, InvalidName, InvalidPlan
from pileups.errors import InvalidText, InvalidTie, InvalidTies, NoTie, Ring, TooMany, UnknownEvent, UnlikeEvents
from pileups.plans import Plan, read_plan
from raising import RaisingCase


def example():
    return Plan(["load", "sell"], [("load", "sell", 0), ("sell", "load", 3)], limits={"sell": 5})


def many_ties(count):
    return [("a", "b", lag) for lag in range(1, count + 1)]


def ring_members(events, ties):
    """Return the events on rings by walking along the ties, step by step, from each event."""
    steps = [(earlier, later) for earlier, later, lag in ties if lag == 0]
    members = []
    for event in events:
        there = [event]
        for _ in events:
            there = [later for earlier, later in steps if earlier in there]
            if event in there and event not in members:
                members.append(event)
    return members


class TestMakingPlans(RaisingCase):
    def test_a_plan_of_each_size(self):
        for many in range(1, 9):
            events = list("hgfedcba")[:many]
            self.assertEqual(Plan(events).events(), events)
            self.assertEqual(Plan(tuple(events)).events(), events)

    def test_parameter_names_and_defaults(self):
        plan = Plan(events=["a"], ties=[("a", "a", 1)], limits={"a": 0})
        self.assertEqual([plan.events(), plan.ties(), plan.limits()], [["a"], [("a", "a", 1)], {"a": 0}])
        self.assertEqual([Plan(["a"]).ties(), Plan(["a"]).limits()], [[], {}])
        self.assertEqual(Plan(["a"], [], limits=None), Plan(["a"], (), limits={}))
        with self.assertRaises(TypeError):
            Plan(["a"], [], {"a": 0})

    def test_events_that_are_no_list_of_one_to_eight(self):
        wrong = [None, True, 0, "a", "ab", {}, {"a": 0}, [], (), list("abcdefghi"), tuple("abcdefghi"), Plan(["a"])]
        for events in wrong:
            self.assert_keeps(InvalidEvents, "value", events, Plan, events)

    def test_more_than_eight_events_are_refused_as_a_whole(self):
        events = [1] * 9
        self.assert_keeps(InvalidEvents, "value", events, Plan, events)

    def test_names_of_events(self):
        for name in no_names():
            self.assert_keeps(InvalidName, "value", name, Plan, ["a", name])
            self.assert_keeps(InvalidName, "value", name, Plan, (name, "a", "a"))

    def test_duplicate_events(self):
        self.assert_raises(Duplicate, "name", "a", Plan, ["a", "a"])
        self.assert_raises(Duplicate, "name", "b", Plan, ["a", "b", "c", "b", 7])
        second = "".join(["lo", "ad"])
        self.assert_keeps(Duplicate, "name", second, Plan, ["load", second])

    def test_events_item_by_item(self):
        self.assert_raises(InvalidName, "value", 7, Plan, ["a", 7, "a"])
        self.assert_raises(Duplicate, "name", "a", Plan, ["a", "a", 7])

    def test_ties_that_are_no_list(self):
        for ties in [None, True, 0, "", "ab", {}, {"a": 1}, Plan(["a"])]:
            self.assert_keeps(InvalidTies, "value", ties, Plan, ["a"], ties)

    def test_sixty_ties_and_one_more(self):
        self.assertEqual(Plan(["a", "b"], many_ties(60)).ties(), many_ties(60))
        self.assertEqual(Plan(["a", "b"], tuple(many_ties(60))).ties(), many_ties(60))
        self.assertEqual(len(Plan(["a", "b"], [("a", "b", 0)] * 60).ties()), 60)
        for ties in [many_ties(61), tuple(many_ties(61)), [None] * 61]:
            self.assert_keeps(InvalidTies, "value", ties, Plan, ["a", "b"], ties)

    def test_a_tie_is_a_tuple_of_three(self):
        wrong = odd_values() + odd_integers() + ["", "abc", ["a", "b", 0], ("a", "b"), ("a", "b", 0, 0), (), ("a",)]
        for tie in wrong:
            self.assert_keeps(InvalidTie, "value", tie, Plan, ["a", "b"], [("a", "b", 1), tie])

    def test_events_of_ties(self):
        for value in no_names() + ["b", "aa", "aaaaaaaa"]:
            self.assert_keeps(UnknownEvent, "name", value, Plan, ["a"], [(value, "a", 1)])
            self.assert_keeps(UnknownEvent, "name", value, Plan, ["a"], [("a", value, 1)])

    def test_lags(self):
        for lag in no_counts():
            self.assert_keeps(InvalidInteger, "value", lag, Plan, ["a", "b"], [("a", "b", lag)])
        for lag in [0, 1, 10 ** 30 - 1, 10 ** 50]:
            self.assertEqual(Plan(["a", "b"], [("a", "b", lag)]).ties(), [("a", "b", lag)])

    def test_order_of_what_is_wrong_with_ties(self):
        self.assert_raises(UnknownEvent, "name", "x", Plan, ["a"], [("x", "y", -1)])
        self.assert_raises(UnknownEvent, "name", "y", Plan, ["a"], [("a", "y", -1)])
        self.assert_raises(InvalidInteger, "value", -1, Plan, ["a"], [("a", "a", -1), None])
        self.assert_raises(InvalidTie, "value", None, Plan, ["a"], [None, ("a", "a", -1)])
        self.assert_raises(InvalidTie, "value", 1, Plan, ["a"], [("a", "a", 0), 1])

    def test_limits(self):
        for limits in [{}, {"a": 0}, {"b": 10 ** 30}, {"b": 1, "a": 2}]:
            self.assertEqual(Plan(["a", "b"], limits=limits).limits(), limits)
        for value in no_counts():
            limits = {"a": 1, "b": value}
            self.assert_keeps(InvalidLimits, "value", limits, Plan, ["a", "b"], limits=limits)
        for limits in [{"c": 1}, {"a": 1, "c": 1}, {0: 1}, {"": 1}, {"A": 1}, {"a": None}]:
            self.assert_keeps(InvalidLimits, "value", limits, Plan, ["a", "b"], limits=limits)
        for limits in [True, False, 0, 1, "", "a", [], (), ["a"], [("a", 1)], (("a", 1),), Plan(["a"])]:
            self.assert_keeps(InvalidLimits, "value", limits, Plan, ["a", "b"], limits=limits)

    def test_order_of_the_arguments(self):
        ring = [("a", "a", 0)]
        self.assert_raises(InvalidEvents, "value", [], Plan, [], None, limits=0)
        self.assert_raises(InvalidName, "value", "", Plan, [""], None, limits=0)
        self.assert_raises(InvalidTies, "value", None, Plan, ["a"], None, limits=0)
        self.assert_raises(InvalidTie, "value", None, Plan, ["a"], [None], limits=0)
        self.assert_raises(InvalidLimits, "value", 0, Plan, ["a"], ring, limits=0)
        self.assert_raises(Ring, "members", ["a"], Plan, ["a"], ring, limits={"a": 0})

    def test_arguments_are_copied(self):
        events, ties, limits = ["a", "b"], [("a", "b", 0)], {"a": 1}
        plan = Plan(events, ties, limits=limits)
        events.append("c")
        events[0] = "x"
        ties.clear()
        limits["b"] = 2
        limits["a"] = 7
        self.assertEqual([plan.events(), plan.ties(), plan.limits()], [["a", "b"], [("a", "b", 0)], {"a": 1}])
        self.assertEqual(str(plan), "events a b; tie a b 0; limit a 1")

    def test_arguments_are_not_modified(self):
        events, ties, limits = ["a", "b"], [("a", "b", 0)], {"a": 1}
        plan = Plan(events, ties, limits=limits)
        plan.limited("b", 3).tied("b", "a", 1).untied(0).limited("a", None).both(plan)
        self.assertEqual([events, ties, limits], [["a", "b"], [("a", "b", 0)], {"a": 1}])


class TestRings(RaisingCase):
    def test_example(self):
        ties = [("a", "b", 0), ("b", "a", 0), ("b", "c", 0)]
        self.assert_raises(Ring, "members", ["a", "b"], Plan, ["a", "b", "c"], ties)

    def test_a_tie_from_an_event_to_itself(self):
        self.assert_raises(Ring, "members", ["b"], Plan, ["a", "b"], [("a", "b", 0), ("b", "b", 0)])
        self.assertEqual(Plan(["a"], [("a", "a", 1)]).ties(), [("a", "a", 1)])

    def test_rings_of_every_length(self):
        events = list("dbacfehg")
        for many in range(1, 9):
            ring = events[:many]
            ties = [(ring[at], ring[(at + 1) % many], 0) for at in range(many)]
            for ordered in [ties, ties[::-1]]:
                self.assert_raises(Ring, "members", ring, Plan, events, ordered)
            for at in range(many):
                broken = [tie[:2] + (1,) if place == at else tie for place, tie in enumerate(ties)]
                self.assertEqual(Plan(events, broken).ties(), broken)
                Plan(events, ties[:at] + ties[at + 1:])

    def test_members_stand_in_the_order_of_the_events(self):
        ties = [("a", "c", 0), ("c", "b", 0), ("b", "a", 0)]
        for events in itertools.permutations("abcd"):
            wanted = [event for event in events if event != "d"]
            self.assert_raises(Ring, "members", wanted, Plan, list(events), ties)

    def test_events_that_hang_on_a_ring_do_not_lie_on_it(self):
        ring = [("b", "c", 0), ("c", "b", 0)]
        ties = [("a", "b", 0), ("c", "d", 0), ("d", "e", 0)]
        self.assert_raises(Ring, "members", ["b", "c"], Plan, list("abcde"), ties + ring)

    def test_two_rings_and_what_lies_between(self):
        ties = [("a", "b", 0), ("b", "a", 0), ("b", "c", 0), ("c", "d", 0), ("d", "e", 0), ("e", "d", 0)]
        self.assert_raises(Ring, "members", ["a", "b", "d", "e"], Plan, list("abcde"), ties)

    def test_all_plans_of_three_events(self):
        events = ["a", "b", "c"]
        pairs = list(itertools.product(events, repeat=2))
        for lags in itertools.product([None, 0, 1], repeat=len(pairs) - 2):
            ties = [pair + (lag,) for pair, lag in zip(pairs, lags) if lag is not None]
            members = ring_members(events, ties)
            if members:
                self.assert_raises(Ring, "members", members, Plan, events, ties)
            else:
                self.assertEqual(Plan(events, ties).ties(), ties)

    def test_two_ties_between_the_same_events(self):
        Plan(["a", "b"], [("a", "b", 0), ("a", "b", 0), ("b", "a", 2)])
        ties = [("a", "b", 2), ("b", "a", 0), ("a", "b", 0)]
        self.assert_raises(Ring, "members", ["a", "b"], Plan, ["a", "b"], ties)


class TestLookingAtPlans(RaisingCase):
    def test_example(self):
        plan = example()
        found = [str(plan), plan.limit("load"), len(plan), "sell" in plan, read_plan(str(plan)) == plan]
        text = "events load sell; tie load sell 0; tie sell load 3; limit sell 5"
        self.assertEqual(found, [text, None, 2, True, True])

    def test_kinds_of_what_is_returned(self):
        plan = Plan(("load", "sell"), (("load", "sell", 0),), limits={"sell": 5})
        self.assertEqual([plan.events(), plan.ties(), plan.limits()],
                         [["load", "sell"], [("load", "sell", 0)], {"sell": 5}])

    def test_what_is_returned_may_be_changed(self):
        plan = example()
        plan.events().append("x")
        plan.ties().clear()
        plan.limits()["load"] = 1
        plan.limits().clear()
        self.assertEqual(plan, example())
        self.assertEqual([plan.events(), len(plan.ties()), plan.limits()], [["load", "sell"], 2, {"sell": 5}])

    def test_limit(self):
        plan = Plan(["a", "b", "c"], limits={"a": 0, "b": 10 ** 31})
        self.assertEqual([plan.limit("a"), plan.limit("b"), plan.limit(event="c")], [0, 10 ** 31, None])
        for value in no_names() + ["d", "ab"]:
            self.assert_keeps(UnknownEvent, "name", value, plan.limit, value)

    def test_len(self):
        self.assertEqual([len(Plan(list("abcdefgh")[:many], [("a", "a", 1)])) for many in range(1, 9)],
                         list(range(1, 9)))

    def test_in(self):
        plan = example()
        self.assertEqual(["load" in plan, "sell" in plan], [True, True])
        for value in no_names() + ["lo", "loads", "load sell", ["load"], ("load", "sell", 0), 5, plan]:
            self.assertIs(value in plan, False)

    def test_equal_plans(self):
        self.assertEqual(example(), example())
        self.assertFalse(example() != example())
        one = Plan(["a", "b"], [("a", "b", 0)], limits={"a": 1, "b": 2})
        self.assertEqual(one, Plan(("a", "b"), (("a", "b", 0),), limits={"b": 2, "a": 1}))

    def test_unequal_plans(self):
        ties = [("a", "b", 0), ("b", "a", 1)]
        plans = [
            Plan(["a", "b"], ties), Plan(["b", "a"], ties), Plan(["a", "b"], ties[::-1]), Plan(["a", "b"], ties[:1]),
            Plan(["a", "b"], ties + ties[:1]), Plan(["a", "b"], [("a", "b", 0), ("b", "a", 2)]),
            Plan(["a", "b"], ties, limits={"a": 0}), Plan(["a", "b"], ties, limits={"b": 0}),
            Plan(["a", "b"], ties, limits={"a": 1}), Plan(["a", "b", "c"], ties),
        ]
        for one, other in itertools.product(range(len(plans)), repeat=2):
            self.assertIs(plans[one] == plans[other], one == other)
            self.assertIs(plans[one] != plans[other], one != other)

    def test_a_plan_equals_only_plans(self):
        plan = Plan(["a"])
        others = ["events a", ["a"], ("a",), None, True, 1, {"a": 0}, [plan], InvalidPlan(plan)]
        for other in others:
            self.assertIs(plan == other, False)
            self.assertIs(other == plan, False)

    def test_repr(self):
        self.assertIsInstance(repr(example()), str)


class TestOtherPlans(RaisingCase):
    def test_tied(self):
        plan = example()
        more = plan.tied("load", "sell", 7)
        self.assertEqual(str(more), "events load sell; tie load sell 0; tie sell load 3; tie load sell 7; limit sell 5")
        self.assertEqual(plan, example())
        self.assertEqual(more, plan.tied(earlier="load", later="sell", lag=7))

    def test_tied_wrong(self):
        plan = example()
        for value in no_names() + ["x"]:
            self.assert_keeps(UnknownEvent, "name", value, plan.tied, value, "y", -1)
            self.assert_keeps(UnknownEvent, "name", value, plan.tied, "load", value, -1)
        for value in no_counts():
            self.assert_keeps(InvalidInteger, "value", value, plan.tied, "load", "sell", value)
        self.assert_raises(Ring, "members", ["load", "sell"], plan.tied, "sell", "load", 0)
        self.assert_raises(Ring, "members", ["sell"], plan.tied, "sell", "sell", 0)
        self.assertEqual(plan, example())

    def test_tied_behind_sixty_ties(self):
        full = Plan(["a", "b"], many_ties(59)).tied("a", "b", 0)
        self.assertEqual(len(full.ties()), 60)
        self.assert_raises(TooMany, "bound", 60, full.tied, "a", "b", 1)
        self.assert_raises(TooMany, "bound", 60, full.tied, "b", "a", 0)
        self.assert_raises(UnknownEvent, "name", "x", full.tied, "x", "y", -1)
        self.assert_raises(UnknownEvent, "name", "y", full.tied, "a", "y", -1)
        self.assert_raises(InvalidInteger, "value", -1, full.tied, "a", "b", -1)
        self.assertEqual(len(full.ties()), 60)

    def test_untied(self):
        plan = Plan(["a", "b"], many_ties(4) + many_ties(1), limits={"a": 3})
        for index in range(5):
            left = many_ties(4) + many_ties(1)
            del left[index]
            self.assertEqual(plan.untied(index), Plan(["a", "b"], left, limits={"a": 3}))
        self.assertEqual(plan.untied(index=0).ties(), many_ties(4)[1:] + many_ties(1))
        self.assertEqual(len(plan.ties()), 5)

    def test_untied_wrong(self):
        plan = example()
        for index in odd_values() + ["", "0", "load", -1, -2, 2, 3, 10 ** 30, -(10 ** 30)]:
            self.assert_keeps(NoTie, "index", index, plan.untied, index)
        self.assert_raises(NoTie, "index", 0, Plan(["a"]).untied, 0)
        self.assertEqual(plan, example())

    def test_limited(self):
        plan = example()
        self.assertEqual(plan.limited("load", 0).limits(), {"load": 0, "sell": 5})
        self.assertEqual(plan.limited("sell", 0).limits(), {"sell": 0})
        self.assertEqual(plan.limited("sell", 10 ** 40).limit("sell"), 10 ** 40)
        self.assertEqual(plan.limited("sell", None).limits(), {})
        self.assertEqual(plan.limited(event="load", limit=None), plan)
        self.assertEqual(plan.limited("load", 1).ties(), plan.ties())
        self.assertEqual(plan, example())

    def test_limited_wrong(self):
        plan = example()
        for value in no_names() + ["x"]:
            self.assert_keeps(UnknownEvent, "name", value, plan.limited, value, -1)
        for value in no_counts():
            if value is not None:
                self.assert_keeps(InvalidInteger, "value", value, plan.limited, "load", value)
        self.assertEqual(plan, example())

    def test_both(self):
        one = Plan(["a", "b"], [("a", "b", 0), ("b", "a", 2)])
        other = Plan(["a", "b"], [("a", "b", 0), ("a", "b", 5)])
        self.assertEqual(one.both(other).ties(), one.ties() + other.ties())
        self.assertEqual(other.both(other=one).ties(), other.ties() + one.ties())
        self.assertEqual([len(one.ties()), len(other.ties())], [2, 2])

    def test_limits_of_both(self):
        choices = [None, 0, 1, 10 ** 31]
        for mine, yours in itertools.product(choices, repeat=2):
            one, other = Plan(["a", "b"]).limited("b", mine), Plan(["a", "b"]).limited("b", yours)
            known = [limit for limit in [mine, yours] if limit is not None]
            wanted = {"b": min(known)} if known else {}
            self.assertEqual(one.both(other).limits(), wanted)
            self.assertEqual([one.limit("b"), other.limit("b")], [mine, yours])
        one = Plan(["a", "b", "c", "d"], limits={"a": 1, "b": 9})
        other = Plan(["a", "b", "c", "d"], limits={"b": 4, "c": 0})
        self.assertEqual(one.both(other).limits(), {"a": 1, "b": 4, "c": 0})

    def test_both_wrong(self):
        plan = example()
        for value in no_names() + ["events load sell", ["load", "sell"]]:
            if not isinstance(value, Plan):
                self.assert_keeps(InvalidPlan, "value", value, plan.both, value)
        for events in [["sell", "load"], ["load"], ["load", "sell", "x"], ["load", "x"]]:
            self.assert_raises(UnlikeEvents, "members", events, plan.both, Plan(events))
        self.assert_raises(Ring, "members", ["load", "sell"], plan.both, Plan(["load", "sell"], [("sell", "load", 0)]))
        self.assertEqual(plan, example())

    def test_both_with_too_many_ties(self):
        forward = Plan(["a", "b"], [("a", "b", 0)] * 30)
        self.assertEqual(len(forward.both(forward).ties()), 60)
        self.assert_raises(TooMany, "bound", 60, forward.both, Plan(["a", "b"], [("b", "a", 0)] * 31))
        self.assert_raises(Ring, "members", ["a", "b"], forward.both, Plan(["a", "b"], [("b", "a", 0)] * 30))
        full = Plan(["a", "b"], many_ties(60))
        self.assert_raises(UnlikeEvents, "members", ["b", "a"], full.both, Plan(["b", "a"], many_ties(60)))
        self.assertEqual(full.both(Plan(["a", "b"])), full)


class TestTexts(RaisingCase):
    def test_str(self):
        self.assertEqual(str(Plan(["a"])), "events a")
        self.assertEqual(str(Plan(["b", "a"])), "events b a")
        self.assertEqual(str(Plan(["b", "a"], limits={"a": 0, "b": 12})), "events b a; limit b 12; limit a 0")
        self.assertEqual(str(Plan(["a"], [("a", "a", 1), ("a", "a", 1)])), "events a; tie a a 1; tie a a 1")
        self.assertEqual(str(Plan(["a"], [("a", "a", 10 ** 40)])), "events a; tie a a 1" + "0" * 40)

    def test_each_text_is_read_back(self):
        names = ["events", "tie", "limit", "abcdefgh", "a", "b", "c", "d"]
        great = 10 ** 30 - 1
        lags = [0, 1, 12, great]
        plans = [example(), Plan(names)]
        plans.append(Plan(["tie", "limit"], [("tie", "limit", 0)], limits={"limit": great, "tie": 0}))
        plans.append(Plan(names, [("events", "tie", lag) for lag in range(60)], limits={name: great for name in names}))
        for one, other in itertools.product(lags, repeat=2):
            plans.append(Plan(["b", "a"], [("a", "b", one), ("b", "a", other + 1 if other < great else other)],
                              limits={"a": one, "b": other}))
        for plan in plans:
            again = read_plan(str(plan))
            self.assertEqual(again, plan)
            self.assertEqual(str(again), str(plan))
            self.assertEqual([again.events(), again.ties(), again.limits()],
                             [plan.events(), plan.ties(), plan.limits()])
        self.assertEqual(read_plan(text="events a"), Plan(["a"]))

    def test_thirty_digits_and_one_more(self):
        most = "9" * 30
        self.assertEqual(read_plan(f"events a; tie a a {most}; limit a {most}").limit("a"), int(most))
        for text in [f"events a; tie a a {most}9", f"events a; limit a {most}9"]:
            self.assert_keeps(InvalidText, "value", text, read_plan, text)

    def test_numbers_that_are_too_long_for_str(self):
        plan = Plan(["a"], [("a", "a", 10 ** 5000)], limits={"a": 10 ** 5000 + 7})
        text = "events a; tie a a 1" + "0" * 5000 + "; limit a 1" + "0" * 4999 + "7"
        self.assertEqual(str(plan), text)
        self.assertIsInstance(repr(plan), str)

    def test_texts_that_are_nearly_right(self):
        wrong = [
            "", " ", ";", "; ", "events", "events ", "event a", "Events a", "a", "tie a a 1", "limit a 1",
            " events a", "events a ", "events  a", "events a\n", "\nevents a", "events a;", "events a; ",
            "events a a", "events A", "events a1", "events abcdefghi", "events a b c d e f g h i", "events 1",
            "events a, b", "events a; events b", "events a; b",
            "events a b;tie a b 0", "events a b ; tie a b 0", "events a b;  tie a b 0", "events a b; tie a b 0;",
            "events a b; tie a b", "events a b; tie a b 0 0", "events a b; tie a 0", "events a b; tie a b c 0",
            "events a b; tie a c 0", "events a b; tie c a 0", "events a b; tie a b x", "events a b; tie 0 a b",
            "events a b; tie a b 00", "events a b; tie a b 01", "events a b; tie a b -1", "events a b; tie a b -0",
            "events a b; tie a b +1", "events a b; tie a b 1.0", "events a b; Tie a b 0", "events a b; ties a b 0",
            "events a b; tie a  b 0", "events a b; tie a b 0 ", "events a b; tie a b 0\n", "events a b, tie a b 0",
            "events a b; limit a", "events a b; limit a 1 1", "events a b; limit c 1", "events a b; limit a -1",
            "events a b; limit a 01", "events a b; limit a +1", "events a b; limit a x", "events a b; limit a None",
            "events a b; limit 1 a", "events a b; limits a 1", "events a b; limit a 1; limit a 1",
            "events a b; limit a 1; limit a 2", "events a b; limit b 1; limit a 1",
            "events a b; limit a 1; tie a b 0", "tie a b 0; events a b", "limit a 1; events a b",
            "events a b; tie a b 0; limit b 1; tie b a 1", "events a b; tie a b 0; ; limit b 1",
            "events a; tie a a 0", "events a b; tie a b 0; tie b a 0", "events a b; a b", "events a b; 1",
            "events a\nb", "events a b;\ntie a b 0",
        ]
        for text in wrong:
            with self.subTest(text):
                self.assert_keeps(InvalidText, "value", text, read_plan, text)

    def test_each_single_change_of_a_text(self):
        text = "events a b; tie a b 0; limit b 10"
        for at, sign in itertools.product(range(len(text) + 1), " ;a0\n"):
            for changed in [text[:at] + text[at + 1:], text[:at] + sign + text[at:], text[:at] + sign + text[at + 1:]]:
                try:
                    plan = read_plan(changed)
                except InvalidText as error:
                    self.assertIs(error.value, changed)
                else:
                    self.assertEqual(str(plan), changed)

    def test_more_than_sixty_ties(self):
        self.assertEqual(len(read_plan("events a" + "; tie a a 1" * 60).ties()), 60)
        text = "events a" + "; tie a a 1" * 61
        self.assert_keeps(InvalidText, "value", text, read_plan, text)

    def test_what_is_no_string(self):
        for value in odd_values() + odd_integers() + [["events", "a"], example(), ("events a",)]:
            self.assert_keeps(InvalidText, "value", value, read_plan, value)


if __name__ == "__main__":
    unittest.main()

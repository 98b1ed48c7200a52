"""Promises [151], [152], [153] and [154]: a desk."""

import random
import unittest

from by_hand import like_plans
from odd_values import no_names, odd_integers, odd_texts, odd_values
from pileups.desk import Desk
from pileups.errors import Barred, InvalidCommand, InvalidCommands, InvalidEntry, InvalidName, InvalidRun, MissingError
from pileups.errors import NoEntry, NoRun, NothingToRedo, NothingToUndo, PlanError, StateError, TooMany, UnknownEvent
from pileups.errors import UnlikeEvents
from pileups.likeness import alike
from pileups.moments import come
from pileups.plans import Plan
from pileups.stocks import Stock, greatest, least, level
from pileups.tables import Table
from raising import RaisingCase

GREAT = 10 ** 30 - 1
TEXT = "events load sell; tie load sell 0; tie sell load 3"
LINES = [f"plan p {TEXT}", "stock s 10 +2 load -1 sell", "begin p"]


def example():
    return Plan(["load", "sell"], [("load", "sell", 0), ("sell", "load", 3)])


def stock():
    return Stock(10, {"load": 2, "sell": -1})


def told(load, sell):
    return {"load": load, "sell": sell}


def desk_of():
    """Return a desk with a plan and a stock, on which the plan is run."""
    desk = Desk()
    desk.put("p", example())
    desk.put("s", stock())
    desk.begin("p")
    return desk


def all_back(desk):
    """Return a copy of a desk for each change that can be taken back, the last one first, and take them back."""
    rows = [desk.copied()]
    while True:
        try:
            desk.undo()
        except NothingToUndo:
            return rows
        rows.append(desk.copied())


def all_on(desk):
    """Return a copy of a desk for each change that can be carried out again, and carry them out."""
    rows = [desk.copied()]
    while True:
        try:
            desk.redo()
        except NothingToRedo:
            return rows
        rows.append(desk.copied())


class TestEntries(RaisingCase):
    def test_at_the_start(self):
        desk = Desk()
        self.assertEqual([desk.names(), len(desk), desk.plan(), desk.counts(), "p" in desk], [[], 0, None, None, False])
        self.assertTrue(desk == Desk())

    def test_entries(self):
        desk = Desk()
        self.assertIs(desk.put("zz", example()), None)
        desk.put(entry=stock(), name="abcdefgh")
        self.assertEqual([desk.names(), len(desk), desk["zz"], desk["abcdefgh"]],
                         [["abcdefgh", "zz"], 2, example(), stock()])
        self.assertIs("zz" in desk, True)
        self.assertIs("z" in desk, False)
        desk.put("zz", stock())
        self.assertEqual([desk["zz"], len(desk)], [stock(), 2])
        self.assertIs(desk.drop(name="zz"), None)
        self.assertEqual([desk.names(), len(desk), "zz" in desk], [["abcdefgh"], 1, False])

    def test_what_is_no_name_of_an_entry(self):
        desk = desk_of()
        for value in no_names() + ["q", "P"]:
            self.assertIs(value in desk, False)
            self.assert_keeps(NoEntry, "name", value, lambda name: desk[name], value)
            self.assert_keeps(NoEntry, "name", value, desk.drop, value)
            self.assert_keeps(NoEntry, "name", value, desk.begin, value)
        self.assert_raises(NoEntry, "name", "s", desk.begin, "s")
        self.assertEqual(desk, desk_of())
        self.assertRaises(TypeError, iter, desk)

    def test_what_cannot_be_put(self):
        desk = desk_of()
        for value in no_names():
            self.assert_keeps(InvalidName, "value", value, desk.put, value, 7)
        for value in odd_values() + odd_integers() + odd_texts() + [Table(example()), Desk(), TEXT, "p"]:
            if not isinstance(value, (Plan, Stock)):
                self.assert_keeps(InvalidEntry, "value", value, desk.put, "q", value)
        self.assertEqual(desk, desk_of())

    def test_twelve_at_most(self):
        desk = Desk()
        for letter in "abcdefghijkl":
            desk.put(letter, Stock(1))
        self.assert_raises(TooMany, "bound", 12, desk.put, "m", Stock(1))
        self.assert_keeps(InvalidEntry, "value", "x", desk.put, "m", "x")
        desk.put("a", example())
        self.assertEqual([len(desk), desk["a"]], [12, example()])
        desk.drop("c")
        desk.put("m", Stock(2))
        self.assertEqual(desk.names(), list("abdefghijklm"))

    def test_equality(self):
        desk = desk_of()
        self.assertTrue(desk == desk_of())
        self.assertFalse(desk != desk_of())
        changes = [lambda other: other.put("q", stock()), lambda other: other.put("s", Stock(10)),
                   lambda other: other.drop("s"), lambda other: other.do(["load"])]
        for change in changes:
            other = desk_of()
            change(other)
            self.assertFalse(desk == other)
            self.assertTrue(desk != other)
            other.undo()
            self.assertTrue(desk == other)
        self.assertFalse(desk == Desk())
        for value in [None, 0, "p", {}, desk.names(), example(), {"p": example(), "s": stock()}]:
            self.assertFalse(desk == value)
        one, other = Desk(), Desk()
        one.run_all(["stock a 1", "stock b 2"])
        other.run_all(["stock b 2", "stock a 1"])
        self.assertTrue(one == other)
        self.assertIsInstance(repr(desk), str)

    def test_the_run_counts_for_equality(self):
        one, other = desk_of(), desk_of()
        other.put("r", Plan(["load", "sell"]))
        other.begin("r")
        other.drop("r")
        self.assertEqual([one.names() == other.names(), one.counts() == other.counts(), one == other],
                         [True, True, False])

    def test_what_is_handed_out_is_copied(self):
        desk = desk_of()
        desk.names().clear()
        desk.counts()["load"] = 9
        events = ["load"]
        desk.do(events)
        events.append("sell")
        self.assertEqual([desk.names(), desk.counts(), events], [["p", "s"], told(1, 0), ["load", "sell"]])


class TestRun(RaisingCase):
    def test_a_run(self):
        desk = desk_of()
        self.assertEqual([desk.plan(), desk.counts()], [example(), told(0, 0)])
        self.assertIs(desk.do(["load", "load", "sell"]), None)
        self.assertEqual(desk.counts(), told(2, 1))
        desk.do(events=("load",))
        self.assertEqual(desk.counts(), told(3, 1))
        self.assertIs(desk.begin(name="p"), None)
        self.assertEqual(desk.counts(), told(0, 0))

    def test_what_cannot_be_done(self):
        desk = desk_of()
        desk.do(["load"])
        before = desk.copied()
        self.assert_raises(Barred, "index", 1, desk.do, ["sell", "sell", "load"])
        for value in [None, 0, "load", {}, ["x"], ["load", 0], [["load"]], [None], "", {"load": 1}, example()]:
            self.assert_keeps(InvalidRun, "value", value, desk.do, value)
        self.assertEqual([desk, desk.counts()], [before, told(1, 0)])
        desk.undo()
        self.assertEqual(desk, desk_of())
        for value in [["load"], 7, []]:
            with self.assertRaises(NoRun):
                Desk().do(value)

    def test_a_plan_that_is_run_stays(self):
        desk = desk_of()
        desk.do(["load"])
        desk.put("p", Plan(["a"]))
        self.assertEqual([desk.plan(), desk.counts(), desk["p"]], [example(), told(1, 0), Plan(["a"])])
        desk.drop("p")
        desk.do(["sell"])
        self.assertEqual([desk.plan(), desk.counts(), desk.names()], [example(), told(1, 1), ["s"]])
        self.assertEqual(desk.run("come"), "load")


class TestTakingBack(RaisingCase):
    def assert_nothing(self, desk, error):
        with self.assertRaises(error) as caught:
            desk.undo() if error == NothingToUndo else desk.redo()
        self.assertEqual(caught.exception.__class__, error)

    def test_undo_and_redo(self):
        desk, states = Desk(), [Desk()]
        steps = [lambda: desk.put("p", example()), lambda: desk.begin("p"), lambda: desk.do(["load", "load"]),
                 lambda: desk.run("do sell"), lambda: desk.drop("p"), lambda: desk.run("stock s 1"),
                 lambda: desk.put("s", stock())]
        for step in steps:
            step()
            states.append(desk.copied())
        for state in states[-2::-1]:
            self.assertIs(desk.undo(), None)
            self.assertEqual(desk, state)
        self.assert_nothing(desk, NothingToUndo)
        for state in states[1:]:
            self.assertIs(desk.redo(), None)
            self.assertEqual(desk, state)
        self.assert_nothing(desk, NothingToRedo)
        self.assertEqual(desk, states[-1])

    def test_a_new_change_ends_what_can_be_carried_out_again(self):
        desk = desk_of()
        desk.do(["load"])
        desk.undo()
        desk.undo()
        self.assertEqual(desk.plan(), None)
        desk.put("t", Stock(1))
        self.assert_nothing(desk, NothingToRedo)
        desk.undo()
        desk.redo()
        self.assertEqual(desk.names(), ["p", "s", "t"])
        self.assertEqual(len(all_back(desk)), 4)

    def test_what_leaves_all_as_it_was_is_no_change(self):
        desk = desk_of()
        desk.do(["load"])
        desk.undo()
        calls = [lambda: desk.put("p", example()), lambda: desk.put("s", Stock(10, {"sell": -1, "load": 2, "a": 0})),
                 lambda: desk.begin("p"), lambda: desk.do([]), lambda: desk.run("begin p"), lambda: desk.run(LINES[0]),
                 lambda: desk.run("counts"), lambda: desk.run_all([]), lambda: desk.run_all(LINES), desk.names,
                 desk.copied, lambda: desk.run("names")]
        for call in calls:
            call()
        desk.redo()
        self.assertEqual(desk.counts(), told(1, 0))
        self.assertEqual(len(all_back(desk)), 5)

    def test_what_is_refused_is_no_change(self):
        desk = desk_of()
        desk.do(["load"])
        desk.undo()
        for line in ["drop q", "do sell", "do x", "begin s", "plan P events a", "x", "lead p x load", "alike p s"]:
            self.assertRaises((PlanError, MissingError, StateError), desk.run, line)
        self.assertRaises(InvalidName, desk.put, "P", stock())
        desk.redo()
        self.assertEqual([desk.counts(), len(all_back(desk))], [told(1, 0), 5])

    def test_copied(self):
        desk = desk_of()
        desk.do(["load"])
        desk.undo()
        other = desk.copied()
        self.assertIsInstance(other, Desk)
        self.assertEqual(other, desk)
        self.assert_nothing(other, NothingToUndo)
        self.assert_nothing(other, NothingToRedo)
        other.do(["load", "load"])
        other.drop("s")
        self.assertEqual([desk, other.counts(), desk.names()], [desk_of(), told(2, 0), ["p", "s"]])
        desk.redo()
        self.assertEqual([desk.counts(), other.counts()], [told(1, 0), told(2, 0)])

    def test_many_changes_by_the_states_that_were_there(self):
        rng = random.Random(152)
        for turn in range(30):
            desk, past, place = desk_of(), [desk_of()], 0
            base = len(all_back(desk_of())) - 1
            for step in range(60):
                kind = rng.choice(["put", "drop", "do", "begin", "undo", "redo", "do"])
                before = desk.copied()
                try:
                    if kind == "put":
                        desk.put(rng.choice("pst"), rng.choice([example(), stock(), Stock(rng.randint(0, 1))]))
                    elif kind == "drop":
                        desk.drop(rng.choice("pst"))
                    elif kind == "do":
                        desk.do([rng.choice(["load", "sell"]) for event in range(rng.randint(0, 2))])
                    elif kind == "begin":
                        desk.begin(rng.choice("pst"))
                    elif kind == "undo" and place > 0:
                        desk.undo()
                        place -= 1
                        self.assertEqual(desk, past[place])
                        continue
                    elif kind == "redo" and place < len(past) - 1:
                        desk.redo()
                        place += 1
                        self.assertEqual(desk, past[place])
                        continue
                    elif kind == "redo":
                        self.assert_nothing(desk, NothingToRedo)
                except (MissingError, StateError):
                    self.assertEqual(desk, before)
                    continue
                if desk != before:
                    del past[place + 1:]
                    past.append(desk.copied())
                    place += 1
            self.assertEqual(len(all_back(desk)) - 1, place + base)


class TestCommands(RaisingCase):
    def test_example(self):
        desk = Desk()
        self.assertEqual(desk.run_all(LINES), ["ok", "ok", "ok"])
        found = [desk.run("do load load sell"), desk.run("counts"), desk.run("come"), desk.run("level s"),
                 desk.run("greatest p s")]
        self.assertEqual(found, ["ok", "load 2, sell 1", "load sell", "13", "endless load sell"])
        found = [desk.run("undo"), desk.counts() == told(0, 0), desk.run("lead p sell load")]
        self.assertEqual(found, ["ok", True, "3"])

    def test_commands_that_change(self):
        desk = Desk()
        self.assertEqual(desk.run(line=f"plan p {TEXT}"), "ok")
        self.assertEqual([desk.run("stock s 10 +2 load -1 sell"), desk.run("begin p")], ["ok", "ok"])
        self.assertEqual(desk, desk_of())
        self.assertEqual([desk.run("do load"), desk.run("undo"), desk.run("redo"), desk.counts()],
                         ["ok"] * 3 + [told(1, 0)])
        self.assertEqual([desk.run("drop p"), desk.names(), desk.run("undo"), desk.names()],
                         ["ok", ["s"], "ok", ["p", "s"]])
        self.assertEqual([desk.run("stock p 7"), desk["p"]], ["ok", Stock(7)])

    def test_commands_that_tell(self):
        desk = Desk()
        self.assertEqual(desk.run("names"), "none")
        desk.run_all(LINES)
        self.assertEqual([desk.run("names"), desk.run("show p"), desk.run("show s")],
                         ["p s", TEXT, "10 +2 load -1 sell"])
        self.assertEqual([desk.run("counts"), desk.run("come"), desk.run("level s")], ["load 0, sell 0", "load", "10"])
        desk.run_all(["plan o events load sell; limit load 0; limit sell 0", "begin o"])
        self.assertEqual([desk.run("come"), desk.run("names")], ["none", "o p s"])
        found = [desk.run(line) for line in ["greatest o s", "least o s", "greatest p s", "least p s", "alike p o",
                                             "alike o p",
                                             "alike p p", "lead p load sell", "lead o load sell", "lead o sell sell"]]
        self.assertEqual(found, ["10", "10", "endless load sell", "10", "load 1, sell 0", "load 1, sell 0", "alike",
                                 "0",
                                 "0", "0"])
        desk.run("plan q events sell load")
        self.assertEqual([desk.run("lead q load sell"), desk.run("least q s"), desk.run("greatest q s")],
                         ["endless", "endless sell", "endless load"])

    def test_answers_and_functions_agree(self):
        rng = random.Random(153)
        for plan in like_plans():
            desk, counts = Desk(), dict.fromkeys(plan.events(), 0)
            amounts = {event: rng.randint(-2, 2) for event in plan.events()}
            held, other = Stock(rng.randint(-9, 9), amounts), rng.choice(like_plans())
            desk.run_all([f"plan one {plan}", f"plan other {other}", f"stock s {held}", "begin one"])
            for step in range(4):
                able = come(plan, counts)
                self.assertEqual(desk.run("come"), " ".join(able) or "none")
                if able:
                    event = rng.choice(able)
                    self.assertEqual(desk.run(f"do {event}"), "ok")
                    counts[event] += 1
                self.assertEqual(desk.run("level s"), str(level(plan, held, counts)))
                self.assertEqual(desk.run("counts"), ", ".join(f"{event} {counts[event]}" for event in plan.events()))
            for word, (extreme, shown) in [("greatest", greatest(plan, held)), ("least", least(plan, held))]:
                wanted = str(extreme) if extreme is not None else " ".join(["endless", *shown])
                self.assertEqual(desk.run(f"{word} one s"), wanted)
            found = alike(plan, other)
            wanted = "alike" if found is None else ", ".join(f"{event} {found[0][event]}" for event in plan.events())
            self.assertEqual(desk.run("alike one other"), wanted)
            for earlier in plan.events():
                for later in plan.events():
                    lead = Table(plan).lead(earlier, later)
                    self.assertEqual(desk.run(f"lead one {earlier} {later}"), "endless" if lead is None else str(lead))

    def test_great_numbers(self):
        desk = Desk()
        desk.run_all([f"plan p events a b; tie a b {GREAT}; limit a {GREAT}", f"stock s -{GREAT} -1 a +{GREAT} b",
                      "begin p",
                      "do a b b"])
        self.assertEqual([desk.run("greatest p s"), desk.run("lead p a b"), desk.run("level s")],
                         [str(2 * GREAT * GREAT - 2 * GREAT), str(GREAT), str(GREAT - 1)])
        self.assertEqual([desk.run("counts"), desk.run("show s")], ["a 1, b 2", f"-{GREAT} -1 a +{GREAT} b"])
        long = 10 ** 5000
        desk.put("t", Stock(long, {"a": -long}))
        desk.put("q", Plan(["a", "b"], [("a", "b", long)]))
        self.assertEqual([desk.run("show t"), desk.run("level t"), desk.run("lead q a b"), desk.run("alike p q")],
                         [f"1{'0' * 5000} -1{'0' * 5000} a", "0", f"1{'0' * 5000}", f"a 0, b 1{'0' * 30}"])

    def test_what_is_no_command(self):
        desk = desk_of()
        wrong = ["", " ", "names ", " names", "names  ", "Names", "names p", "plan", "plan q", "plan q events",
                 f"plan {TEXT}", f"plan q {TEXT};", f"plan q  {TEXT}", "plan q 10 +2 load", f"stock q {TEXT}",
                 "stock", "stock q", "stock q x", "stock q 10 +2", f"plan q events a b; tie a b 1{'0' * 30}",
                 "plan q events a b; tie a c 0", "plan q events a; tie a a 0", "drop", "drop p s", "begin",
                 "begin p s", "do", "do ", "do load  sell", "undo 1", "undo p", "redo p", "show", "show p s",
                 "counts p", "come p", "level", "level s p", "greatest", "greatest p", "greatest p s s", "least p",
                 "least p s s", "alike p", "alike p p p", "lead p", "lead p load", "lead p load sell sell", "put p 1",
                 "names\n", "\nnames", "do\nload", "x", "ok", "plan\np events a", "copied", "run names",
                 "plan q events a\n", "stock q 1\n"]
        wrong.extend(odd_values() + odd_integers() + odd_texts() + [b"names", ["names"], ("names",), Desk(), stock()])
        for value in wrong:
            self.assert_keeps(InvalidCommand, "value", value, desk.run, value)
        self.assertEqual(desk, desk_of())

    def test_names_and_events_are_any_words(self):
        desk = desk_of()
        for word in ["P", "1", "a-b", "abcdefghi", ";", "q\n", "plan"]:
            if word != "plan":
                self.assert_raises(InvalidName, "value", word, desk.run, f"plan {word} events a")
                self.assert_raises(InvalidName, "value", word, desk.run, f"stock {word} 1")
                self.assert_raises(InvalidRun, "value", ["load", word], desk.run, f"do load {word}")
            self.assert_raises(UnknownEvent, "name", word, desk.run, f"lead p {word} x")
            self.assert_raises(UnknownEvent, "name", word, desk.run, f"lead p load {word}")
            for form in ["drop {}", "begin {}", "show {}", "level {}", "greatest {} x", "greatest p {}", "least {} x",
                         "least p {}", "alike {} x", "alike p {}", "lead {} x x"]:
                self.assert_raises(NoEntry, "name", word, desk.run, form.format(word))
        self.assertEqual(desk, desk_of())

    def test_entries_of_the_other_kind(self):
        desk = desk_of()
        for line, name in [("begin s", "s"), ("level p", "p"), ("greatest s p", "s"), ("greatest p p", "p"),
                           ("least s s", "s"), ("least p p", "p"), ("alike s p", "s"), ("alike p s", "s"),
                           ("lead s load sell", "s"), ("greatest q r", "q"), ("alike p q", "q")]:
            self.assert_raises(NoEntry, "name", name, desk.run, line)

    def test_a_run_is_needed(self):
        desk = Desk()
        desk.run_all(LINES[:2])
        for line in ["counts", "come", "level s", "do load", "do x"]:
            with self.assertRaises(NoRun):
                desk.run(line)
        self.assert_raises(NoEntry, "name", "p", desk.run, "level p")
        self.assertEqual([desk.run("show s"), desk.run("greatest p s")], ["10 +2 load -1 sell", "endless load sell"])

    def test_what_the_functions_raise(self):
        desk = desk_of()
        desk.run_all(["stock t 1 -1 load +1 x", "plan r events sell load", "stock u 1 +1 y +1 z"])
        self.assert_raises(UnknownEvent, "name", "x", desk.run, "level t")
        self.assert_raises(UnknownEvent, "name", "y", desk.run, "greatest p u")
        self.assert_raises(UnknownEvent, "name", "y", desk.run, "least p u")
        self.assert_raises(UnlikeEvents, "members", ["sell", "load"], desk.run, "alike p r")
        self.assert_raises(Barred, "index", 2, desk.run, "do load sell sell load")
        for number in range(6, 13):
            desk.put("abcdefghijklm"[number], Stock(1))
        self.assert_raises(TooMany, "bound", 12, desk.run, "stock new 1")
        self.assert_raises(TooMany, "bound", 12, desk.run, "plan new events a")

    def test_nothing_to_take_back(self):
        for line, error in [("undo", NothingToUndo), ("redo", NothingToRedo)]:
            desk = Desk()
            with self.assertRaises(error):
                desk.run(line)


class TestRunAll(RaisingCase):
    def test_each_change_is_one_of_its_own(self):
        desk = Desk()
        self.assertEqual(desk.run_all(lines=(*LINES, "do load", "counts", "do sell", "undo")),
                         ["ok", "ok", "ok", "ok", "load 1, sell 0", "ok", "ok"])
        self.assertEqual([desk.counts(), len(all_on(desk)) - 1], [told(1, 0), 1])
        self.assertEqual([row.counts() for row in all_back(desk)],
                         [told(1, 1), told(1, 0), told(0, 0), None, None, None])

    def test_an_exception_leaves_all_as_it_was(self):
        bad = [("x", InvalidCommand), ("do sell", Barred), ("drop q", NoEntry), ("plan P events a", InvalidName),
               (7, InvalidCommand), (None, InvalidCommand), ("lead p x y", UnknownEvent), ("alike p r", UnlikeEvents)]
        for line, error in bad:
            for ahead in [[], ["undo"], ["undo", "undo"], ["redo"], ["undo", "redo", "drop p", "undo"],
                          ["drop s", "stock s 1", "do load"], ["undo", "do load", "undo", "undo"], ["names", "counts"]]:
                desk, same = desk_of(), desk_of()
                for one in [desk, same]:
                    one.run_all(["plan r events a", "do load", "do load", "do sell", "undo"])
                self.assertRaises(error, desk.run_all, [*ahead, f"plan p {TEXT}", "begin p", line, "names"])
                self.assertEqual(desk, same)
                self.assertEqual(all_on(desk), all_on(same))
                self.assertEqual(all_back(desk), all_back(same))

    def test_the_exception_of_the_command(self):
        desk, value = desk_of(), ["names"]
        kept = self.assert_raises(InvalidCommand, "value", value, desk.run_all, ["do load", value, "x"])
        self.assertIs(kept, value)
        self.assert_raises(Barred, "index", 0, desk.run_all, ["do load", "do sell", "do sell", "x"])
        with self.assertRaises(NothingToUndo):
            Desk().run_all(["undo"])
        with self.assertRaises(NoRun):
            Desk().run_all(["counts"])

    def test_forty_at_most(self):
        desk = desk_of()
        self.assertEqual(desk.run_all(["names"] * 40), ["p s"] * 40)
        for value in odd_values() + odd_integers() + odd_texts() + [["names"] * 41, [7] * 41, "names", {"names": 1},
                                                                    {0: "names"}]:
            if not isinstance(value, (list, tuple)) or len(value) > 40:
                self.assert_keeps(InvalidCommands, "value", value, desk.run_all, value)
        self.assertEqual([desk, desk.run_all([]), desk.run_all(())], [desk_of(), [], []])

    def test_arguments_and_results(self):
        desk, lines = Desk(), list(LINES)
        desk.run_all(lines).clear()
        self.assertEqual([lines, desk], [LINES, desk_of()])


if __name__ == "__main__":
    unittest.main()

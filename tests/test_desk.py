import random
import unittest

from plain import ALL_SERVICES, Checks, PlainDesk, nested, odd_values
from queueloops.desk import Desk, desk_text, read_desk
from queueloops.devices import Device, least_rule
from queueloops.errors import (BadDeed, BadDevice, BadName, BadNumber, BadRule, BadService, BadSlot, BadSlots, Held,
                               LacksDelay, LoopError, NoNote, NothingToRedo, NothingToUndo, NoThing, WrongKind)
from queueloops.runs import Run
from queueloops.tables import serves

TEXT, RULE = "stage 0 1\nstage 0 2", ((0, 0), (1, 0), (0, 1), (1, 1))
BAD_NAMES = odd_values() + [0, 1, "A", "aB", "a b", "a1", "abcdefghi", "a\n", " a", "a ", "a_b", "a-", ("a",), ["a"], "{"]
BAD_NAMES = [name for name in BAD_NAMES if name != "queue"]
NO_THINGS = BAD_NAMES + ["queue", "x", "dd", "zzzzzzzz"]


def stands(desk):
    """All that can be asked of a desk."""
    told = [desk.names, len(desk), desk.notes(), desk.all_deeds(), desk_text(desk)]
    for name in desk.names:
        kind, thing = desk.thing_kind(name), desk.thing_of(name)
        told.append((name, kind, desk.device_of(name).text))
        told.append({"device": lambda: thing.text, "rule": lambda: thing,
                     "run": lambda: (thing.slot, thing.script, thing.lanes)}[kind]())
    return told


def small_desk():
    """A desk with a device d, another one e, rules r and s, and runs q, of a queue, and o."""
    desk = Desk()
    for deed in (("device", "d", TEXT), ("least", "r", "d", 3), ("run", "q", "r", ("queue", 2)), ("slots", "q", (2,)),
                 ("device", "e", "stage 0 1 2"), ("rule", "s", "e", ((0,), (1,))), ("run", "o", "s", ("any", 2)),
                 ("slots", "o", ((1, 0), (), (1,)))):
        desk.lead(deed)
    return desk


class DeskChecks(Checks):
    def refused(self, error, value, desk, deed):
        """The deed is refused just so, and nothing is changed."""
        kept = stands(desk)
        self.raises(error, value, desk.lead, deed)
        self.assertEqual(stands(desk), kept)


class DeedsTest(DeskChecks):
    def test_no_things(self):
        desk = Desk()
        self.assertEqual([desk.names, len(desk), desk.notes(), desk.all_deeds()], [(), 0, (), ((), ())])
        self.assertIn("names", vars(desk))
        for value in NO_THINGS:
            self.assertIs(value in desk, False)

    def test_deeds_of_all_kinds(self):
        desk = small_desk()
        self.assertEqual([desk.names, len(desk)], [("d", "e", "o", "q", "r", "s"), 6])
        self.assertEqual([desk.thing_kind(name) for name in desk.names],
                         ["device", "device", "run", "run", "rule", "rule"])
        self.assertEqual([desk.thing_of("d"), desk.thing_of("e")], [Device(TEXT), Device("stage 0 1 2")])
        self.assertEqual([desk.thing_of("r"), desk.thing_of("s")], [RULE, ((0,), (1,))])
        self.assertEqual([desk.device_of(name).text for name in desk.names],
                         [TEXT, "stage 0 1 2", "stage 0 1 2", TEXT, TEXT, "stage 0 1 2"])
        self.assertEqual([type(desk.thing_of("d")), type(desk.thing_of("q")), type(desk.device_of("q"))],
                         [Device, Run, Device])
        self.assertEqual([desk.thing_of("q").script, desk.thing_of("o").script], [(2,), ((1, 0), (), (1,))])
        for name in desk.names:
            self.assertIs(name in desk, True)
        for value in NO_THINGS:
            self.assertIs(value in desk, False)

    def test_what_is_no_deed(self):
        desk = small_desk()
        values = odd_values() + [
            0, 1, (), ("drop",), ("drop", "d", "d"), ["drop", "d"], ("Drop", "d"), ("drop ", "d"), (["drop"], "d"),
            (("drop",), "d"), (True, "d"), (None,), ("note", "d"), ("undo",), ("device", "x"), ("device", "x", TEXT, 1),
            ("rule", "x", "d"), ("rule", "x", "d", RULE, 3), ("least", "x", "d"), ("least", "x", "d", 1, 1),
            ("run", "x", "r", "queue", 2), ("run", "x", "r"), ("slots", "q"), ("slots", "q", 2, 2), ("copy", "q"),
            ("copy", "q", "x", "y"), ("stand", 3), {"drop": "d"}, "drop d", ("", "d"), (Device(TEXT), "d"),
            (("drop", "d"),), (nested(50, tuple), "d"), [("drop", "d")], ("device",), ("slots",), ("copy",), ("rule",),
        ]
        for value in values:
            self.refused(BadDeed, value, desk, value)

    def test_new_names(self):
        desk = small_desk()
        deeds = [lambda name: ("device", name, TEXT), lambda name: ("device", name, None),
                 lambda name: ("rule", name, "d", RULE), lambda name: ("rule", name, None, None),
                 lambda name: ("rule", name, "q", RULE), lambda name: ("least", name, "d", 3),
                 lambda name: ("least", name, "x", -1), lambda name: ("run", name, "r", ("queue", 2)),
                 lambda name: ("run", name, "d", None), lambda name: ("copy", "q", name)]
        for deed in deeds:
            for name in BAD_NAMES:
                self.refused(BadName, name, desk, deed(name))
            for name in desk.names:
                self.refused(Held, name, desk, deed(name))
        for name in ("a", "z", "abcdefgh", "zzzzzzzz", "queue", "device"):
            desk.lead(("device", name, TEXT))
            self.assertIn(name, desk.names)

    def test_things_that_are_not_there(self):
        desk = small_desk()
        for name in NO_THINGS:
            for deed in (("rule", "new", name, RULE), ("rule", "new", name, None), ("least", "new", name, 3),
                         ("least", "new", name, None), ("run", "new", name, ("queue", 2)), ("run", "new", name, None),
                         ("slots", name, (1,)), ("slots", name, None), ("copy", name, "new"), ("copy", name, None),
                         ("copy", name, "d"), ("drop", name)):
                self.refused(NoThing, name, desk, deed)
            for method in (desk.thing_of, desk.thing_kind, desk.device_of):
                self.raises(NoThing, name, method, name)
            for service in (("queue", 2), None):
                self.raises(NoThing, name, desk.does_serve, name, service)

    def test_things_of_another_kind(self):
        desk = small_desk()
        for name in desk.names:
            kind = desk.thing_kind(name)
            if kind != "device":
                for deed in (("rule", "new", name, RULE), ("rule", "new", name, None), ("least", "new", name, 3),
                             ("least", "new", name, None)):
                    self.refused(WrongKind, name, desk, deed)
            if kind != "rule":
                for service in (("queue", 2), None):
                    self.refused(WrongKind, name, desk, ("run", "new", name, service))
                    self.raises(WrongKind, name, desk.does_serve, name, service)
            if kind != "run":
                for whos in ((1,), None, ()):
                    self.refused(WrongKind, name, desk, ("slots", name, whos))

    def test_bad_devices(self):
        desk = small_desk()
        for text, number in (("", 1), ("stage 0", 1), ("stage 0 1\nstage 0 0", 2), ("stage 0 1\n", 2), (None, 0), (1, 0),
                             ("\n".join(["stage 0 1"] * 7), 7), ((TEXT,), 0), (Device(TEXT), 0)):
            self.refused(BadDevice, number, desk, ("device", "new", text))

    def test_bad_rules(self):
        desk = small_desk()
        for rows in odd_values() + [0, (), ((0, 0), (0, 1)), ((0,),), ((0, 0), [1, 0]), [(0, 0)], ((0, False),),
                                    ((0, 0), (True, 0)), ((0, 0), None), ((0, 0),) * 402, ((0, 0, 0),)]:
            self.refused(BadRule, rows, desk, ("rule", "new", "d", rows))
        self.refused(BadRule, RULE, desk, ("rule", "new", "e", RULE))

    def test_bad_sizes(self):
        desk = small_desk()
        for size in odd_values() + [-1, 401, 10 ** 39, (0,)]:
            self.refused(BadNumber, size, desk, ("least", "new", "d", size))
        for size in (4, 5, 400):
            self.refused(LacksDelay, 4, desk, ("least", "new", "d", size))
        desk.lead(("device", "far", "stage 1 2"))
        self.refused(LacksDelay, 0, desk, ("least", "new", "far", 0))

    def test_bad_services(self):
        desk = small_desk()
        for service in odd_values() + [("queue", 0), ("queue", 5), ("queue", True), ["queue", 2], ("line", 2), ("any",)]:
            self.refused(BadService, service, desk, ("run", "new", "r", service))
            self.raises(BadService, service, desk.does_serve, "r", service)

    def test_bad_slots(self):
        desk = small_desk()
        for whos in [value for value in odd_values() if type(value) is not tuple] + [0, 2, [0], (), (0,) * 101]:
            self.refused(BadSlots, whos, desk, ("slots", "q", whos))
            self.refused(BadSlots, whos, desk, ("slots", "o", whos))

    def test_slots_that_are_refused(self):
        desk = small_desk()
        for who in odd_values() + [3, -1, 10 ** 39, (), (0,), 1.5]:
            self.refused(BadSlot, who, desk, ("slots", "q", (who,)))
            self.refused(BadSlot, who, desk, ("slots", "q", (0, 2, who, None)))
        for who in [value for value in odd_values() if value != ()] + [0, 1, (0, 0), (2,), (1, 0, 1), (0, True), [0]]:
            self.refused(BadSlot, who, desk, ("slots", "o", (who,)))
            self.refused(BadSlot, who, desk, ("slots", "o", ((1,), (1,), who, None)))
        self.refused(BadSlot, (0, 0), desk, ("slots", "o", ((0, 0),)))
        self.refused(BadSlot, (2,), desk, ("slots", "o", ((), (2,), (3,))))
        # The packet of the slot ahead leaves now, so what could stand there no longer can.
        self.refused(BadSlot, (0,), desk, ("slots", "o", ((), (1,), (0,), ())))
        self.refused(BadSlot, (True,), desk, ("slots", "o", ((True,),)))
        self.refused(BadSlot, [1], desk, ("slots", "o", ((), [1])))
        self.refused(BadSlot, 0, desk, ("slots", "o", (0,)))

    def test_hundred_slots_and_thousand(self):
        desk = small_desk()
        for hundred in range(9):
            desk.lead(("slots", "q", (1,) * 100))
        desk.lead(("slots", "q", (1,) * 99))
        self.assertEqual(desk.thing_of("q").slot, 1000)
        self.refused(BadSlot, 0, desk, ("slots", "q", (0,)))
        desk.undo()
        self.assertEqual(desk.thing_of("q").slot, 901)
        # A hundred slots can be led but one: nothing is done.
        self.refused(BadSlot, 7, desk, ("slots", "q", (1,) * 99 + (7,)))
        self.refused(BadSlot, 0, desk, ("slots", "q", (1,) * 99 + (0,)))
        desk.lead(("slots", "q", (0,) * 99))
        self.assertEqual(desk.thing_of("q").script, (2,) + (1,) * 900 + (0,) * 99)

    def test_several_are_wrong_at_once(self):
        desk = small_desk()
        for error, value, deed in (
                (BadDeed, ("drop", None, None), ("drop", None, None)),
                (BadName, "D", ("device", "D", None)), (Held, "d", ("device", "d", "")),
                (BadName, True, ("rule", True, "x", None)), (Held, "q", ("rule", "q", "r", 1)),
                (NoThing, "x", ("rule", "new", "x", 1)), (WrongKind, "r", ("rule", "new", "r", 1)),
                (BadName, None, ("least", None, None, None)), (Held, "e", ("least", "e", "q", -1)),
                (NoThing, None, ("least", "new", None, -1)), (WrongKind, "o", ("least", "new", "o", 401)),
                (BadName, "", ("run", "", "", 1)), (Held, "o", ("run", "o", "d", 1)),
                (NoThing, "x", ("run", "new", "x", 1)), (WrongKind, "d", ("run", "new", "d", 1)),
                (NoThing, "x", ("slots", "x", ())), (WrongKind, "s", ("slots", "s", ())),
                (BadSlots, (), ("slots", "q", ())), (BadSlots, (None,) * 101, ("slots", "q", (None,) * 101)),
                (BadSlot, 9, ("slots", "q", (0, 9, None))), (NoThing, "x", ("copy", "x", "X")),
                (NoThing, "x", ("copy", "x", "d")), (BadName, "X", ("copy", "d", "X")), (Held, "d", ("copy", "d", "d"))):
            self.refused(error, value, desk, deed)

    def test_parameters_by_name(self):
        desk = Desk()
        desk.lead(deed=("device", "d", TEXT))
        desk.lead(deed=("least", "r", "d", 3))
        self.assertEqual(desk.thing_of(name="r"), RULE)
        self.assertEqual([desk.thing_kind(name="r"), desk.device_of(name="r").text], ["rule", TEXT])
        self.assertIs(desk.does_serve(service=("queue", 2), rule="r"), True)
        desk.note(word="two")
        desk.undo()
        desk.back(word="two")
        self.assertEqual(desk_text(desk=desk), desk_text(read_desk(text=desk_text(desk))))

    def test_methods_return_none(self):
        desk = Desk()
        self.assertEqual([desk.lead(("device", "d", TEXT)), desk.note("a"), desk.undo(), desk.redo(), desk.back("a")],
                         [None] * 5)


def run_behind(desk, whos):
    """A run of the rule r behind these slots."""
    run = Run(desk.thing_of("d"), desk.thing_of("r"), ("queue", 2))
    for who in whos:
        run.go_on(who)
    return run


class ThingsTest(DeskChecks):
    def test_what_thing_of_tells_goes_on_by_itself(self):
        desk = small_desk()
        run, kept = desk.thing_of("q"), stands(desk)
        run.go_on(2)
        run.go_on(0)
        self.assertEqual(stands(desk), kept)
        self.assertEqual(desk.thing_of("q").script, (2,))
        desk.lead(("slots", "q", (1, 1)))
        self.assertEqual([run.script, desk.thing_of("q").script], [(2, 2, 0), (2, 1, 1)])
        desk.undo()
        self.assertEqual([run.script, desk.thing_of("q").script], [(2, 2, 0), (2,)])

    def test_a_run_that_was_taken_stands_where_it_was(self):
        desk = small_desk()
        taken = desk.thing_of("q")
        lanes = taken.lanes
        desk.lead(("slots", "q", (2, 0)))
        desk.lead(("drop", "q"))
        self.assertEqual([taken.slot, taken.script, taken.lanes], [1, (2,), lanes])
        self.assertEqual(taken.go_on(2), run_behind(desk, (2,)).go_on(2))

    def test_copies_go_on_by_themselves(self):
        desk = small_desk()
        desk.lead(("copy", "q", "p"))
        desk.lead(("slots", "p", (2, 1)))
        self.assertEqual([desk.thing_of("q").script, desk.thing_of("p").script], [(2,), (2, 2, 1)])
        desk.lead(("slots", "q", (0,)))
        self.assertEqual([desk.thing_of("q").script, desk.thing_of("p").script], [(2, 0), (2, 2, 1)])
        desk.lead(("drop", "q"))
        self.assertEqual(desk.thing_of("p").script, (2, 2, 1))
        desk.lead(("copy", "p", "q"))
        desk.lead(("slots", "q", (1,)))
        self.assertEqual([desk.thing_of("q").script, desk.thing_of("p").script], [(2, 2, 1, 1), (2, 2, 1)])
        for _ in range(3):
            desk.undo()
        self.assertEqual([desk.thing_of("q").script, desk.thing_of("p").script], [(2, 0), (2, 2, 1)])

    def test_copies_of_devices_and_rules(self):
        desk = small_desk()
        desk.lead(("copy", "d", "twin"))
        desk.lead(("copy", "r", "same"))
        self.assertEqual([desk.thing_of("twin"), desk.thing_of("same")], [Device(TEXT), RULE])
        self.assertEqual([desk.thing_kind("twin"), desk.thing_kind("same"), desk.device_of("same").text],
                         ["device", "rule", TEXT])
        desk.lead(("least", "more", "twin", 1))
        desk.lead(("run", "other", "same", ("order", 1)))
        self.assertEqual([desk.thing_of("more"), desk.device_of("other").text], [RULE[:2], TEXT])

    def test_things_whose_device_is_dropped(self):
        desk = small_desk()
        for name in ("d", "r"):
            desk.lead(("drop", name))
        self.assertEqual([desk.device_of("q").text, desk.thing_of("q").script], [TEXT, (2,)])
        desk.lead(("slots", "q", (2,)))
        desk.lead(("device", "d", "stage 0 7"))
        self.assertEqual([desk.device_of("q").text, desk.device_of("d").text], [TEXT, "stage 0 7"])
        desk.lead(("device", "r", "stage 0 8"))
        self.assertEqual([desk.thing_kind("r"), desk.device_of("r").text], ["device", "stage 0 8"])
        self.refused(WrongKind, "r", desk, ("run", "new", "r", ("queue", 1)))

    def test_does_serve(self):
        desk = small_desk()
        for name, device, rule in (("r", Device(TEXT), RULE), ("s", Device("stage 0 1 2"), ((0,), (1,)))):
            for service in ALL_SERVICES:
                self.assertIs(desk.does_serve(name, service), serves(device, rule, service))

    def test_least(self):
        desk = Desk()
        desk.lead(("device", "d", "stage 0 1\nstage 2 0\nstage 0 1"))
        for size, name in enumerate("abcef"):
            desk.lead(("least", name, "d", size))
            self.assertEqual(desk.thing_of(name), least_rule(desk.thing_of("d"), size))

    def test_two_desks_do_not_share(self):
        one, two = small_desk(), small_desk()
        kept = stands(two)
        one.lead(("slots", "q", (2,)))
        one.note("here")
        one.lead(("drop", "d"))
        self.assertEqual(stands(two), kept)

    def test_told_tuples_do_not_change(self):
        desk = small_desk()
        desk.note("a")
        kept = [desk.names, desk.notes(), desk.all_deeds()]
        told = repr(kept)
        desk.undo()
        desk.lead(("drop", "q"))
        desk.note("b")
        self.assertEqual(repr(kept), told)


class JournalTest(DeskChecks):
    def test_nothing_to_undo_or_redo(self):
        desk = Desk()
        self.raises(NothingToUndo, 0, desk.undo)
        self.raises(NothingToRedo, 0, desk.redo)
        desk = small_desk()
        self.raises(NothingToRedo, 8, desk.redo)
        for many in range(8):
            desk.undo()
        self.raises(NothingToUndo, 0, desk.undo)
        self.assertEqual([desk.names, len(desk), len(desk.all_deeds()[1])], [(), 0, 8])
        for many in range(8):
            desk.redo()
        self.raises(NothingToRedo, 8, desk.redo)
        self.assertEqual(stands(desk), stands(small_desk()))

    def test_there_and_back(self):
        desk, kept = Desk(), []
        for deed in small_desk().all_deeds()[0] + (("drop", "q"), ("copy", "o", "q"), ("slots", "q", ((1,),))):
            kept.append(stands(desk)[:2] + stands(desk)[5:])
            desk.lead(deed)
        for told in kept[::-1]:
            desk.undo()
            self.assertEqual(stands(desk)[:2] + stands(desk)[5:], told)
        for told in kept:
            self.assertEqual(stands(desk)[:2] + stands(desk)[5:], told)
            desk.redo()

    def test_a_new_deed_forgets_undone_ones(self):
        desk = small_desk()
        desk.undo()
        desk.undo()
        self.assertEqual([len(deeds) for deeds in desk.all_deeds()], [6, 2])
        self.refused(NoThing, "x", desk, ("drop", "x"))
        self.refused(BadDeed, ("drop",), desk, ("drop",))
        desk.lead(("drop", "s"))
        self.assertEqual([len(deeds) for deeds in desk.all_deeds()], [7, 0])
        self.raises(NothingToRedo, 7, desk.redo)

    def test_undone_deeds_stand_as_they_would_be_done_again(self):
        desk = small_desk()
        deeds = desk.all_deeds()[0]
        for many in range(8, -1, -1):
            self.assertEqual(desk.all_deeds(), (deeds[:many], deeds[many:]))
            self.assertEqual([type(part) for part in (desk.all_deeds(),) + desk.all_deeds()], [tuple] * 3)
            if many:
                desk.undo()

    def test_notes(self):
        desk = small_desk()
        desk.note("eight")
        desk.undo()
        desk.note("seven")
        desk.note("again")
        desk.note("seven")
        self.assertEqual(desk.notes(), (("again", 7), ("eight", 8), ("seven", 7)))
        desk.note("eight")
        self.assertEqual(desk.notes(), (("again", 7), ("eight", 7), ("seven", 7)))
        desk.redo()
        desk.note("again")
        self.assertEqual(desk.notes(), (("again", 8), ("eight", 7), ("seven", 7)))
        for word in BAD_NAMES:
            kept = stands(desk)
            self.raises(BadName, word, desk.note, word)
            self.raises(NoNote, word, desk.back, word)
            self.assertEqual(stands(desk), kept)
        for word in ("d", "eigh", "zzzzzzzz"):
            self.raises(NoNote, word, desk.back, word)

    def test_words_of_notes_are_not_names_of_things(self):
        desk = small_desk()
        desk.note("d")
        desk.note("x")
        self.assertIs("x" in desk, False)
        self.raises(NoThing, "x", desk.thing_of, "x")
        self.assertEqual(desk.notes(), (("d", 8), ("x", 8)))
        self.assertEqual(desk.thing_of("d").text, TEXT)

    def test_notes_that_are_forgotten_and_that_stay(self):
        desk = Desk()
        desk.note("none")
        for many, deed in enumerate(small_desk().all_deeds()[0], start=1):
            desk.lead(deed)
            desk.note("abcdefgh"[many - 1])
        self.assertEqual(len(desk.notes()), 9)
        for _ in range(3):
            desk.undo()
        desk.note("five")
        self.assertEqual(len(desk.notes()), 10)
        self.refused(NoThing, "x", desk, ("drop", "x"))
        desk.lead(("device", "k", "stage 0 9"))
        self.assertEqual(desk.notes(), (("a", 1), ("b", 2), ("c", 3), ("d", 4), ("e", 5), ("five", 5), ("none", 0)))
        for word in "fgh":
            self.raises(NoNote, word, desk.back, word)
        desk.back("none")
        self.assertEqual([desk.names, len(desk.all_deeds()[1])], [(), 6])
        desk.lead(("device", "k", "stage 0 9"))
        self.assertEqual(desk.notes(), (("none", 0),))

    def test_back(self):
        desk, kept = Desk(), []
        desk.note("none")
        words = ["none"]
        for deed in small_desk().all_deeds()[0]:
            kept.append(stands(desk)[:2] + stands(desk)[5:])
            desk.lead(deed)
            words.append("n" + "abcdefgh"[len(words) - 1])
            desk.note(words[-1])
        kept.append(stands(desk)[:2] + stands(desk)[5:])
        choice = random.Random(91)
        for _ in range(60):
            many = choice.randint(0, 8)
            desk.back(words[many])
            self.assertEqual([len(deeds) for deeds in desk.all_deeds()], [many, 8 - many])
            self.assertEqual(stands(desk)[:2] + stands(desk)[5:], kept[many])
            self.assertEqual(len(desk.notes()), 9)


class CrosswiseTest(DeskChecks):
    """Beside a plain desk, which does all deeds that stand anew each time it is asked."""

    def made_deed(self, choice, desk):
        """A deed, most often with names of things of the kind that is asked for, but also wrong ones."""
        word = choice.choice(("device", "rule", "least", "run", "slots", "slots", "slots", "copy", "drop"))
        kinds = {"rule": "device", "least": "device", "run": "rule", "slots": "run"}
        known = [name for name in desk.names if desk.thing_kind(name) == kinds.get(word, desk.thing_kind(name))]
        new, old = choice.choice("abcdefghijA"), choice.choice(known if known and choice.random() < 0.8 else "abcdefgh")
        if word == "device":
            return word, new, choice.choice((TEXT, "stage 0 1", "stage 0", "stage 2 1 0\nstage 0 3"))
        if word == "rule":
            return word, new, old, choice.choice((((0, 0),), ((0,), (1,)), RULE, ((2, 0), (1, 0))))
        if word == "least":
            return word, new, old, choice.choice((0, 1, 2, 3, 9, -1))
        if word == "run":
            return word, new, old, (choice.choice(("queue", "order", "any")), choice.randint(0, 3))
        if word == "copy":
            return word, old, new
        if word == "drop":
            return word, old
        kind = choice.choice(((0, 1, 0, 2), ((), (0,), (1,), (0, 1)), ((), 0)))
        return word, old, tuple(choice.choice(kind) for _ in range(choice.randint(0, 3)))

    def step(self, choice, desk, plain):
        """One step of any kind, at both; what is told of it."""
        at = choice.random()
        word = choice.choice(("m", "n", "o"))
        if at < 0.75:
            deed = self.made_deed(choice, desk)
            return [self.told(told.lead, deed) for told in (desk, plain)]
        if at < 0.83:
            return [self.told(told.undo) for told in (desk, plain)]
        if at < 0.89:
            return [self.told(told.redo) for told in (desk, plain)]
        if at < 0.95:
            return [self.told(told.note, word) for told in (desk, plain)]
        return [self.told(told.back, word) for told in (desk, plain)]

    def told(self, method, *arguments):
        try:
            return method(*arguments)
        except LoopError as error:
            return type(error), repr(error.value)

    def test_crosswise(self):
        seen = {}
        for seed in range(150):
            choice = random.Random(seed)
            desk, plain = Desk(), PlainDesk()
            for deed in small_desk().all_deeds()[0] if seed % 3 else ():
                desk.lead(deed)
                plain.lead(deed)
            for _ in range(60):
                one, two = self.step(choice, desk, plain)
                self.assertEqual(one, two)
                word = one[0].__name__ if one else None
                seen[word] = seen.get(word, 0) + 1
                self.assertEqual(stands(desk), plain.stands())
                if choice.random() < 0.1:
                    other = read_desk(desk_text(desk))
                    self.assertEqual(stands(other), stands(desk))
                    desk = other
        for word in """BadName Held NoThing WrongKind BadDevice BadRule BadNumber LacksDelay BadSlots BadSlot
                       NothingToUndo NothingToRedo NoNote""".split():
            self.assertGreater(seen.get(word, 0), 3, word)
        self.assertGreater(seen[None], 2000)


if __name__ == "__main__":
    unittest.main()

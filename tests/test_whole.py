"""One device and rule by all doors of the program, where the document says that they agree."""

import importlib
import inspect
import random
import unittest

from plain import ALL_SERVICES, Checks, all_rules, made_rule, made_script, plain_clashes, plain_packets
from queueloops.desk import Desk, desk_text, read_desk
from queueloops.devices import Device, device_text, is_rule, least_rule, row_delay, rows_for, rules_many
from queueloops.errors import BadScript, LoopError, TooMany
from queueloops.far import first_above, packet_at, waits_at
from queueloops.figures import figures_clash, figures_device, figures_rule, figures_serve, moved_device, moved_rule
from queueloops.likes import alike, rule_with_lanes, shows_alike, turned, turned_rule, unused_lanes, with_lanes
from queueloops.pairs import can_be
from queueloops.runs import Run, clashes_of, routes
from queueloops.services import packets_of, waiting
from queueloops.sizes import greatest_rule, serving_rules, shows_greatest
from queueloops.tables import clash_pairs, least_clash, meets, safe_size, serves, shows_least_clash
from test_interface import FUNCTIONS

DEVICES = [Device(text) for text in (
    "stage 0 1", "stage 0 1\nstage 0 2", "stage 0 2\nstage 0 1", "stage 0 1\nstage 0 1", "stage 2 0 1\nstage 0 1 3",
    "stage 0 1\nstage 0 2\nstage 0 4", "stage 0 1 2\nstage 0 3 6", "stage 0 1 2\nstage 0 1 2\nstage 0 1",
    "stage 0 1\nstage 0 2\nstage 0 4\nstage 0 8", "stage 3 0 2 1\nstage 8 0 4",
)]


def cases(seed, many):
    choice = random.Random(seed)
    for device in DEVICES:
        for _ in range(many):
            rule = made_rule(choice, device, choice.randint(0, 15))
            yield device, rule, least_rule(device, len(rule) - 1)


class DoorsTest(Checks):
    def check_serving(self, device, rule, service):
        """All that tells whether the rule serves tells the same."""
        served = serves(device, rule, service)
        found = clash_pairs(device, rule, service)
        self.assertEqual([found == (), least_clash(device, rule, service) is None], [served, served])
        self.assertIs(safe_size(device, rule, service) == len(rule) - 1, served)
        self.assertIs(self.desk_with(device, rule).does_serve("r", service), served)
        size, _ = greatest_rule(device, service)
        self.assertLessEqual(served, size >= len(rule) - 1)
        self.assertIs(shows_greatest(device, service, (len(rule) - 1, rule)), served and size == len(rule) - 1)
        self.assertGreaterEqual(size, safe_size(device, rule, service))
        for ahead, behind, later, stage in found[:12]:
            self.assertIs(can_be(service, len(rule) - 1, (ahead, behind, later)), True)
            self.assertIn(stage, meets(device, rule, (ahead, behind, later)))
        return served

    def desk_with(self, device, rule):
        desk = Desk()
        desk.lead(("device", "d", device.text))
        desk.lead(("rule", "r", "d", rule))
        return desk

    def test_serving(self):
        told = set()
        for device, rule, _ in cases(101, 6):
            for service in ALL_SERVICES:
                told.add((service[0], self.check_serving(device, rule, service)))
        self.assertEqual(len(told), 6)

    def test_runs_by_made_scripts(self):
        """No script of a rule that serves has a clash; a least clash has one by all doors."""
        choice = random.Random(102)
        for device, rule, _ in cases(103, 2):
            for service in ALL_SERVICES:
                script = made_script(choice, service, len(rule) - 1, 12)
                clashes = self.check_script(device, rule, service, script)
                if serves(device, rule, service):
                    self.assertEqual(clashes, ())
                else:
                    least = least_clash(device, rule, service)
                    self.assertNotEqual(self.check_script(device, rule, service, least), ())
                    self.assertIs(shows_least_clash(device, rule, service, least), True)

    def check_script(self, device, rule, service, script):
        clashes = clashes_of(device, rule, service, script)
        self.assertEqual(clashes, plain_clashes(device, rule, plain_packets(service, len(rule) - 1, script)))
        nothing = 0 if service[0] == "queue" else ()
        whos = script + (nothing,) * (len(rule) + 1)
        desk = self.desk_with(device, rule)
        desk.lead(("run", "q", "r", service))
        desk.lead(("slots", "q", script + (nothing,)))
        run, told = Run(device, rule, service), ()
        for slot, who in enumerate(whos):
            if slot == len(script) + 1:
                taken = desk.thing_of("q")
                self.assertEqual([taken.slot, taken.script, taken.lanes], [run.slot, run.script, run.lanes])
            told += tuple((slot,) + clash for clash in run.go_on(who)[2])
        self.assertEqual(told, clashes)
        for (slot, delay), route in zip(packets_of(service, len(rule) - 1, script),
                                        routes(device, rule, service, script)):
            self.assertEqual(route[0], slot)
            self.assertEqual(row_delay(device, rule[delay]), delay)
        return clashes

    def test_figures(self):
        for bases in ((2,), (3,), (4,), (2, 2), (2, 3), (3, 2), (4, 4), (2, 2, 2), (2, 2, 3), (2, 2, 2, 2), (4, 2, 2)):
            device, rule = figures_device(bases), figures_rule(bases)
            for service in ALL_SERVICES:
                self.assertIs(serves(device, rule, service), figures_serve(bases, service))
                size, _ = greatest_rule(device, service)
                if figures_serve(bases, service):
                    self.assertEqual(size, len(rule) - 1)
                    self.assertIs(shows_greatest(device, service, (size, rule)), True)
                    self.assertIsNone(figures_clash(bases, service))
                else:
                    self.assertIn(figures_clash(bases, service), clash_pairs(device, rule, service))

    def test_greatest_rules_by_all_doors(self):
        for device in DEVICES:
            for service in ALL_SERVICES:
                size, rule = greatest_rule(device, service)
                self.assertIs(is_rule(device, rule), True)
                self.assertEqual([serves(device, rule, service), safe_size(device, rule, service)], [True, size])
                self.assertGreater(rules_many(device, size), 0)
                if service[0] != "queue":
                    self.assertEqual(alike(device, rule, device, rule, service), ("alike",))
                if rules_many(device, size) <= 100:
                    self.assertEqual(serving_rules(device, service, size),
                                     sum(serves(device, other, service) for other in all_rules(device, size)))

    def test_likes(self):
        choice = random.Random(104)
        for device, rule, least in cases(105, 3):
            stage = choice.randrange(len(device))
            order = tuple(choice.sample(range(len(device.stages[stage])), len(device.stages[stage])))
            other, other_rule = with_lanes(device, stage, order), rule_with_lanes(device, rule, stage, order)
            reverse = tuple(range(len(device)))[::-1]
            self.assertEqual([turned(device), turned_rule(device, rule)],
                             [moved_device(device, reverse), moved_rule(device, rule, reverse)])
            self.assertEqual(len(unused_lanes(other, other_rule)), len(unused_lanes(device, rule)))
            for service in ALL_SERVICES:
                self.assertEqual(clash_pairs(other, other_rule, service), clash_pairs(device, rule, service))
                if service[0] != "queue":
                    pairs = [{clash[:3] for clash in clash_pairs(device, told, service)} for told in (rule, least)]
                    told = alike(device, rule, device, least, service)
                    self.assertIs(told == ("alike",), pairs[0] == pairs[1])
                    self.assertIs(shows_alike(device, rule, device, least, service, told), True)
            for one in (("order", 1), ("any", 1)):
                self.assertIs(serves(device, rule, one), serves(turned(device), turned_rule(device, rule), one))

    def test_far_slots_and_queues(self):
        """The counts of arrivals are a script for a size just up to the first packet that is delayed by more."""
        choice, bad = random.Random(106), 0
        for _ in range(80):
            first = tuple(choice.randint(0, 2) for _ in range(choice.randint(0, 6)))
            again = tuple(choice.randint(0, choice.choice((1, 2, 3))) for _ in range(choice.randint(1, 6)))
            counts, size = (first + again * 40)[:40], choice.randint(0, 6)
            above = first_above(first, again, size)
            many = len(counts) if above is None else above[0]
            packets = packets_of(("queue", 4), size, counts[:many])
            self.assertEqual([packet_at(first, again, number)[::2] for number in range(len(packets))], list(packets))
            self.assertEqual(tuple(waits_at(first, again, slot + 1) for slot in range(40)), waiting(counts))
            if many < len(counts):
                bad += 1
                self.raises(BadScript, many, packets_of, ("queue", 4), size, counts)
        self.assertTrue(10 < bad < 70)

    def test_a_desk_does_what_its_deeds_tell(self):
        for device, rule, least in cases(107, 1):
            desk = self.desk_with(device, rule)
            desk.lead(("least", "l", "d", len(rule) - 1))
            self.assertEqual([desk.thing_of("d"), desk.thing_of("r"), desk.thing_of("l")], [device, rule, least])
            self.assertEqual(desk.device_of("l").stages, device.stages)
            again = read_desk(desk_text(desk))
            self.assertEqual([again.thing_of("r"), again.all_deeds()], [rule, desk.all_deeds()])
            self.assertEqual(device_text(again.thing_of("d").stages), device.text)


class CallsTest(Checks):
    """Equal calls, by position or by names, in any sequence."""

    def arguments(self):
        """What may be passed for each parameter, for all functions."""
        device, rule = Device("stage 0 1\nstage 0 2 5"), ((0, 0), (1, 0), (0, 1), (1, 1))
        given = {"device": device, "rule": rule, "other": turned(device), "other_rule": turned_rule(device, rule),
                 "service": ("order", 2), "size": 3, "script": ((0, 2), (), (1,)), "slot": 1, "slots": 2, "row": (1, 1),
                 "delay": 3, "stages": device.stages, "counts": (2, 0, 1), "pair": (0, 2, 0), "bases": (2, 3),
                 "number": 4, "order": (1, 0), "stage": 0, "lane": 1, "first": (3, 2), "again": (0, 1, 0), "place": 1,
                 "value": (1, ((0, 0), (1, 0))), "text": "stand 1\nnote a 1\ndevice d 1\nstage 0 1"}
        for module, functions in FUNCTIONS.items():
            for name, parameters in functions.items():
                told = {each: given[each] for each in parameters if each in given}
                if name == "lane_out":
                    told.update(stage=1, lane=2)
                if name == "led_on":
                    told.update(slot=(3,))
                if name == "desk_text":
                    told["desk"] = read_desk(given["text"])
                yield getattr(importlib.import_module("queueloops." + module), name), told

    def called(self, function, *arguments, **named):
        """What the call returns, or raises, so that it can be compared."""
        try:
            result = function(*arguments, **named)
        except LoopError as error:
            return "raised", type(error).__name__, repr(error.value)
        return self.shown(result)

    def shown(self, value):
        if isinstance(value, Device):
            return "device", value.text
        if isinstance(value, Desk):
            return "desk", desk_text(value)
        if isinstance(value, tuple):
            return tuple(self.shown(part) for part in value)
        return type(value).__name__, value

    def test_calls(self):
        calls = list(self.arguments())
        told = [self.called(function, **named) for function, named in calls]
        raised = [calls[at][0].__name__ for at, result in enumerate(told) if result[0] == "raised"]
        self.assertEqual(raised, [])
        choice = random.Random(108)
        for _ in range(3):
            for at in choice.sample(range(len(calls)), len(calls)):
                function, named = calls[at]
                mixed = dict(choice.sample(list(named.items()), len(named)))
                kept = self.shown(tuple(named.values()))
                self.assertEqual(self.called(function, **mixed), told[at])
                self.assertEqual(self.called(function, *[named[each] for each in
                                                         inspect.signature(function).parameters]), told[at])
                self.assertEqual(self.shown(tuple(named.values())), kept)

    def test_all_functions_are_called(self):
        named = {function.__name__ for function, _ in self.arguments()}
        self.assertEqual(named, {name for functions in FUNCTIONS.values() for name in functions})

    def test_what_was_returned_may_be_passed_in_again(self):
        device = DEVICES[8]
        size, rule = greatest_rule(device, ("queue", 2))
        self.assertEqual([is_rule(device, rule), size], [True, 15])
        self.assertIs(shows_greatest(device, ("queue", 2), (size, rule)), True)
        self.assertIs(shows_greatest(device, ("queue", 2), (size, (rule, rule))), False)
        found = clash_pairs(device, rule, ("any", 4))
        self.assertGreater(len(found), 100)
        self.assertIs(shows_least_clash(device, rule, ("any", 4), found), False)
        self.assertIs(is_rule(device, found), False)
        self.assertIs(shows_alike(device, rule, device, rule, ("any", 4), (found, found)), False)
        desk = Desk()
        for _ in range(300):
            for deed in (("device", "d", device.text), ("least", "r", "d", 15), ("run", "q", "r", ("queue", 2)),
                         ("slots", "q", (1,) * 100), ("drop", "d"), ("drop", "r"), ("drop", "q")):
                desk.lead(deed)
        text = desk_text(desk)
        self.assertGreater(len(text), 90000)
        self.assertEqual(desk_text(read_desk(text)), text)
        deeds = desk.all_deeds()
        with self.assertRaises(LoopError) as caught:
            desk.lead(deeds)
        self.assertIs(caught.exception.value, deeds)

    def test_too_many_rows_does_not_bar_other_doors(self):
        device = Device("\n".join(["stage 0 1 2 3"] * 6))
        self.raises(TooMany, "rows", greatest_rule, device, ("queue", 2))
        self.assertEqual(rows_for(device, 18), ((3,) * 6,))
        rule = least_rule(device, 18)
        self.assertIs(is_rule(turned(device), turned_rule(device, rule)), True)


if __name__ == "__main__":
    unittest.main()

import random
import unittest
from itertools import permutations

from plain import (ALL_SERVICES, Checks, all_rules, all_scripts, made_rule, made_script, nested, odd_values,
                   plain_clashes, plain_packets)
from queueloops.devices import Device, device_text, is_rule
from queueloops.errors import BadNumber, BadOrder, BadRule, BadService, FewLanes, InUse, UnlikeSizes
from queueloops.figures import moved_device, moved_rule
from queueloops.likes import (alike, lane_out, rule_with_lanes, shows_alike, turned, turned_rule, unused_lanes,
                              with_lanes)
from queueloops.runs import clashes_of
from queueloops.tables import serves

DEVICE, RULE = Device("stage 0 1\nstage 0 2"), ((0, 0), (1, 0), (0, 1), (1, 1))
WIDE, WIDE_RULE = Device("stage 0 9 1\nstage 0 2"), ((0, 0), (2, 0), (0, 1), (2, 1))
DEVICES = [Device(text) for text in (
    "stage 0 1", "stage 1 0 2\nstage 3 0", "stage 0 1\nstage 0 2", "stage 0 2\nstage 0 1", "stage 0 1\nstage 0 1",
    "stage 0 1\nstage 2 0\nstage 0 1", "stage 0 1 2 3\nstage 0 4 8 12", "stage 5 1 0\nstage 2 0 7 1\nstage 0 1000000",
    "stage 0 1\nstage 0 1\nstage 0 1\nstage 0 1\nstage 0 1\nstage 0 1",
)]
TOLD_SERVICES = [service for service in ALL_SERVICES if service[0] != "queue"]
BAD_RULES = odd_values() + [
    0, (), ((0, 0), (0, 1)), ((1, 0),), ((0,),), ((0, 0, 0),), ((0, 2),), ((0, 0), [1, 0]), [(0, 0), (1, 0)],
    ([0, 0],), ((0, False),), ((0, 0), (True, 0)), ((0, 0), None), ((0, 0), 1), ((0, 0), (1, (0,))), ((0, 0),) * 402,
]
BAD_NUMBERS = odd_values() + [-1, 2, 10 ** 39, (0,), [0], 0.0]
BAD_ORDERS = odd_values() + [
    0, (), (0,), (1,), (0, 0), (1, 1), (0, 2), (1, 2), (0, 1, 2), (-1, 0), [0, 1], [1, 0], (False, True), (0, True),
    (False, 1), (True, 0), (0, None), (0, "1"), (0, (1,)), ((0, 1),), "01", {0: 0, 1: 1}, (0, nested(50, list)),
]


def cases(seed, many, most):
    """(device, rule) of sizes up to most."""
    choice = random.Random(seed)
    for device in DEVICES:
        for _ in range(many):
            rule = made_rule(choice, device, choice.randint(0, most))
            if rule:
                yield device, rule


def scripts_of(choice, size, slots):
    """A script of each service, for this size."""
    return [(service, made_script(choice, service, size, slots)) for service in ALL_SERVICES]


def has_clash(device, rule, service, script):
    return plain_clashes(device, rule, plain_packets(service, len(rule) - 1, script)) != ()


class TurnedTest(Checks):
    def test_stages_and_rows(self):
        for device, rule in cases(61, 3, 9):
            back = turned(device)
            self.assertIs(type(back), Device)
            self.assertEqual(list(back.stages), list(reversed(device.stages)))
            self.assertEqual(back.text.split("\n"), list(reversed(device.text.split("\n"))))
            told = turned_rule(device, rule)
            self.assertEqual(told, tuple(tuple(reversed(row)) for row in rule))
            self.assertIs(is_rule(back, told), True)
            self.assertEqual([turned(back), turned_rule(back, told)], [device, rule])

    def test_they_are_moved(self):
        for device, rule in cases(62, 2, 9):
            order = tuple(range(len(device)))[::-1]
            self.assertEqual(turned(device), moved_device(device, order))
            self.assertEqual(turned_rule(device, rule), moved_rule(device, rule, order))

    def test_bad_rules(self):
        for value in BAD_RULES:
            self.raises(BadRule, value, turned_rule, DEVICE, value)
        self.raises(BadRule, RULE, turned_rule, turned(DEVICE), RULE)

    def test_one_packet_a_slot_that_leaves_in_order_or_anyhow(self):
        """The paragraph FOR ALL devices and rules: what serves one packet a slot does so turned about."""
        told = set()
        for device, rule in cases(63, 12, 5):
            for service in (("order", 1), ("any", 1)):
                told.add(serves(device, rule, service))
                self.assertIs(serves(turned(device), turned_rule(device, rule), service), serves(device, rule, service))
        self.assertEqual(told, {True, False})
        # It is not so for more packets a slot, nor for queues.
        self.assertIs(serves(DEVICE, RULE, ("queue", 2)), True)
        self.assertIs(serves(turned(DEVICE), turned_rule(DEVICE, RULE), ("queue", 2)), False)


class LikeChecks(Checks):
    def check_like(self, choice, device, rule, other, other_rule):
        """Both serve the same services, and have clashes at the same slots and stages by the same scripts."""
        self.assertIs(is_rule(other, other_rule), True)
        size = len(rule) - 1
        for service, script in scripts_of(choice, size, 6):
            self.assertIs(serves(other, other_rule, service), serves(device, rule, service))
            self.same_clashes(device, rule, other, other_rule, service, script)

    def same_clashes(self, device, rule, other, other_rule, service, script):
        packets = plain_packets(service, len(rule) - 1, script)
        told = [clash[:2] + clash[3:] for clash in clashes_of(other, other_rule, service, script)]
        self.assertEqual(sorted(told), sorted(clash[:2] + clash[3:] for clash in plain_clashes(device, rule, packets)))

    def by_all_scripts(self, device, rule, other, other_rule):
        for service in (("queue", 3), ("order", 2), ("any", 2)):
            for script in all_scripts(service, len(rule) - 1, 2):
                self.same_clashes(device, rule, other, other_rule, service, script)


class LanesTest(LikeChecks):
    def test_other_orders(self):
        choice = random.Random(64)
        for device, rule in cases(65, 1, 7):
            for stage, lengths in enumerate(device.stages):
                for order in list(permutations(range(len(lengths))))[:7]:
                    other, other_rule = with_lanes(device, stage, order), rule_with_lanes(device, rule, stage, order)
                    self.assertIs(type(other), Device)
                    for at, told in enumerate(other.stages):
                        self.assertEqual(told, tuple(lengths[i] for i in order) if at == stage else device.stages[at])
                    for row, other_row in zip(rule, other_rule):
                        for at, lane in enumerate(row):
                            self.assertEqual(order[other_row[at]] if at == stage else other_row[at], lane)
                    self.assertEqual([len(rule), type(other_rule)], [len(other_rule), tuple])
                    if order == order[::-1] or choice.random() < 0.2:
                        self.check_like(choice, device, rule, other, other_rule)

    def test_by_all_scripts_of_few_slots(self):
        choice = random.Random(66)
        for device, text, order in ((DEVICE, "stage 1 0\nstage 0 2", (1, 0)),
                                    (Device("stage 2 0 1\nstage 0 1"), "stage 0 1 2\nstage 0 1", (1, 2, 0))):
            other = with_lanes(device, 0, order)
            self.assertEqual(other.text, text)
            for rule in choice.sample(all_rules(device, 2), 1):
                self.by_all_scripts(device, rule, other, rule_with_lanes(device, rule, 0, order))

    def test_there_and_back(self):
        for device, rule in cases(67, 1, 9):
            for stage, lengths in enumerate(device.stages):
                for order in list(permutations(range(len(lengths))))[::4]:
                    back = tuple(order.index(lane) for lane in range(len(lengths)))
                    other = with_lanes(device, stage, order)
                    self.assertEqual(with_lanes(other, stage, back), device)
                    told = rule_with_lanes(device, rule, stage, order)
                    self.assertEqual(rule_with_lanes(other, told, stage, back), rule)

    def test_errors(self):
        for value in BAD_RULES:
            for stage in (0, 2, None):
                self.raises(BadRule, value, rule_with_lanes, DEVICE, value, stage, None)
        for value in BAD_NUMBERS:
            for order in ((0, 1), (0, 0), None):
                self.raises(BadNumber, value, with_lanes, DEVICE, value, order)
                self.raises(BadNumber, value, rule_with_lanes, DEVICE, RULE, value, order)
        for value in BAD_ORDERS:
            for stage in (0, 1):
                self.raises(BadOrder, value, with_lanes, DEVICE, stage, value)
                self.raises(BadOrder, value, rule_with_lanes, DEVICE, RULE, stage, value)
        for order in ((0, 1), (0, 1, 2, 3), (0, 1, 1), (2, 0, True)):
            self.raises(BadOrder, order, with_lanes, WIDE, 0, order)
        self.raises(BadOrder, (0, 1, 2), with_lanes, WIDE, 1, (0, 1, 2))


class OutTest(LikeChecks):
    def test_unused_lanes(self):
        for device, rule in cases(68, 6, 5):
            told = unused_lanes(device, rule)
            used = {(stage, lane) for row in rule for stage, lane in enumerate(row)}
            self.assertEqual(told, tuple((stage, lane) for stage, lengths in enumerate(device.stages)
                                         for lane in range(len(lengths)) if (stage, lane) not in used))
        self.assertEqual(unused_lanes(DEVICE, RULE), ())
        self.assertEqual(unused_lanes(DEVICE, RULE[:1]), ((0, 1), (1, 1)))

    def test_each_lane(self):
        choice = random.Random(69)
        seen = {"used": 0, "two": 0, "out": 0}
        for device, rule in cases(70, 8, 5):
            for stage, lengths in enumerate(device.stages):
                for lane in range(len(lengths)):
                    delays = tuple(x for x, row in enumerate(rule) if row[stage] == lane)
                    if delays:
                        seen["used"] += 1
                        self.raises(InUse, delays, lane_out, device, rule, stage, lane)
                    elif len(lengths) == 2:
                        seen["two"] += 1
                        self.raises(FewLanes, stage, lane_out, device, rule, stage, lane)
                    else:
                        seen["out"] += 1
                        self.check_out(choice, device, rule, stage, lane)
        self.assertGreater(min(seen.values()), 10)

    def check_out(self, choice, device, rule, stage, lane):
        result = other, other_rule = lane_out(device, rule, stage, lane)
        self.assertEqual([type(result), type(other), type(other_rule)], [tuple, Device, tuple])
        for at, lengths in enumerate(device.stages):
            left = tuple(length for number, length in enumerate(lengths) if number != lane or at != stage)
            self.assertEqual(other.stages[at], left)
        for row, other_row in zip(rule, other_rule):
            self.assertEqual([other.stages[at][other_row[at]] for at in range(len(row))],
                             [device.stages[at][row[at]] for at in range(len(row))])
        self.assertEqual(unused_lanes(other, other_rule),
                         tuple((at, number - (at == stage and number > lane))
                               for at, number in unused_lanes(device, rule) if (at, number) != (stage, lane)))
        if choice.random() < 0.3:
            self.check_like(choice, device, rule, other, other_rule)

    def test_by_all_scripts_of_few_slots(self):
        for device, stage, lane in ((WIDE, 0, 1), (Device("stage 0 1\nstage 0 1 5"), 1, 2),
                                    (Device("stage 7 0 1 9\nstage 0 1"), 0, 0)):
            for rule in all_rules(device, 1)[:3] + all_rules(device, 2)[:2]:
                self.by_all_scripts(device, rule, *lane_out(device, rule, stage, lane))

    def test_a_lane_in_use_of_a_stage_with_two(self):
        for stage in (0, 1):
            self.raises(InUse, (0, 2) if stage == 0 else (0, 1), lane_out, DEVICE, RULE, stage, 0)
        self.raises(FewLanes, 1, lane_out, DEVICE, RULE[:2], 1, 1)
        self.raises(InUse, (0, 1), lane_out, DEVICE, RULE[:2], 1, 0)

    def test_errors(self):
        for value in BAD_RULES:
            self.raises(BadRule, value, unused_lanes, DEVICE, value)
            for stage, lane in ((0, 0), (2, 0), (None, None)):
                self.raises(BadRule, value, lane_out, DEVICE, value, stage, lane)
        for value in BAD_NUMBERS:
            for lane in (0, 2, None):
                self.raises(BadNumber, value, lane_out, DEVICE, RULE, value, lane)
            self.raises(BadNumber, value, lane_out, DEVICE, RULE, 0, value)
            self.raises(BadNumber, value, lane_out, DEVICE, RULE[:1], 1, value)
        self.raises(BadNumber, 3, lane_out, WIDE, WIDE_RULE, 0, 3)
        self.assertEqual(lane_out(WIDE, WIDE_RULE, 0, 1), (DEVICE, RULE))

    def test_arguments_by_name(self):
        self.assertEqual(turned(device=DEVICE).text, "stage 0 2\nstage 0 1")
        self.assertEqual(turned_rule(rule=RULE, device=DEVICE), ((0, 0), (0, 1), (1, 0), (1, 1)))
        self.assertEqual(with_lanes(order=(1, 0), stage=1, device=DEVICE).text, "stage 0 1\nstage 2 0")
        self.assertEqual(rule_with_lanes(order=(1, 0), stage=1, rule=RULE, device=DEVICE),
                         ((0, 1), (1, 1), (0, 0), (1, 0)))
        self.assertEqual(unused_lanes(rule=WIDE_RULE, device=WIDE), ((0, 1),))
        self.assertEqual(lane_out(lane=1, stage=0, rule=WIDE_RULE, device=WIDE), (DEVICE, RULE))
        told = {"service": ("order", 2), "other_rule": turned_rule(DEVICE, RULE), "other": turned(DEVICE),
                "rule": RULE, "device": DEVICE}
        self.assertEqual(alike(**told)[0], "parts")
        self.assertIs(shows_alike(value=("parts", ((0, 2),), "one"), **told), True)

    def test_arguments_are_not_changed(self):
        for device, rule in cases(71, 1, 5):
            kept = repr((device.text, device.stages, rule))
            other = Device(device.text)
            self.assertEqual([turned(device), turned_rule(device, rule)], [turned(other), turned_rule(other, rule)])
            self.assertEqual(unused_lanes(device, rule), unused_lanes(other, rule))
            order = tuple(range(len(device.stages[0])))[::-1]
            self.assertEqual(with_lanes(device, 0, order), with_lanes(other, 0, order))
            self.assertEqual(alike(device, rule, other, rule, ("any", 2)), ("alike",))
            self.assertEqual(repr((device.text, device.stages, rule)), kept)


class AlikeErrorsTest(Checks):
    def functions(self):
        return [(alike, ()), (shows_alike, (None,)), (shows_alike, (("alike",),))]

    def test_bad_rules(self):
        other, other_rule = turned(DEVICE), turned_rule(DEVICE, RULE)
        for function, rest in self.functions():
            for value in BAD_RULES:
                self.raises(BadRule, value, function, DEVICE, value, other, other_rule, ("any", 1), *rest)
                self.raises(BadRule, value, function, DEVICE, value, other, None, None, *rest)
                self.raises(BadRule, value, function, other, other_rule, DEVICE, value, ("any", 1), *rest)
                self.raises(BadRule, value, function, other, other_rule, DEVICE, value, ("queue", 1), *rest)
            self.raises(BadRule, RULE, function, DEVICE, RULE, other, RULE, ("any", 1), *rest)
            self.raises(BadRule, other_rule, function, DEVICE, other_rule, other, None, ("any", 1), *rest)

    def test_unlike_sizes(self):
        for function, rest in self.functions():
            for one in range(4):
                for two in range(4):
                    if one != two:
                        for service in (("any", 1), ("queue", 1), None):
                            self.raises(UnlikeSizes, (one, two), function, DEVICE, RULE[:one + 1], DEVICE,
                                        RULE[:two + 1], service, *rest)

    def test_bad_services(self):
        values = odd_values() + [("queue", 1), ("queue", 2), ("queue", 4), ("order", 0), ("order", 5), ("any", True),
                                 ["any", 1], ("any",), ("any", 1, 1), ("order", None), ("line", 1), "any"]
        for function, rest in self.functions():
            for value in values:
                self.raises(BadService, value, function, DEVICE, RULE, DEVICE, RULE, value, *rest)


class AlikeTest(Checks):
    def pairs_of_rules(self, choice, many):
        """(device, rule, other, other_rule) of small sizes."""
        small = DEVICES[:6] + [Device("stage 0 1 2"), Device("stage 0 1 2\nstage 0 1"), Device("stage 0 2 1\nstage 0 1")]
        for _ in range(many):
            size = choice.randint(0, 3)
            rules = [(device, made_rule(choice, device, size)) for device in choice.sample(small, 3)]
            rules = [(device, rule) for device, rule in rules if len(rule) == size + 1]
            for device, rule in rules:
                for other, other_rule in rules:
                    yield device, rule, other, other_rule

    def check_value(self, device, rule, other, other_rule, service, told):
        """What is told can stand, and just the told device has a clash by it."""
        self.assertEqual([type(told), len(told), told[0], type(told[1])], [tuple, 3, "parts", tuple])
        self.assertIs(type(plain_packets(service, len(rule) - 1, told[1])), list)
        clashes = [has_clash(device, rule, service, told[1]), has_clash(other, other_rule, service, told[1])]
        self.assertEqual(clashes, [told[2] == "one", told[2] == "other"])

    def test_beside_all_scripts_of_few_slots(self):
        choice = random.Random(72)
        told = {"alike": 0, "one": 0, "other": 0}
        for device, rule, other, other_rule in self.pairs_of_rules(choice, 25):
            size = len(rule) - 1
            for service in choice.sample(TOLD_SERVICES, 2):
                slots = 3 if size < 2 or service[1] == 1 else 2
                result = alike(device, rule, other, other_rule, service)
                self.assertIs(shows_alike(device, rule, other, other_rule, service, result), True)
                parting = self.parting(device, rule, other, other_rule, service, slots)
                told[result[-1]] += 1
                if result == ("alike",):
                    self.assertEqual(parting, [])
                else:
                    self.check_value(device, rule, other, other_rule, service, result)
                    self.check_shown(device, rule, other, other_rule, service, result, parting)
        self.assertGreater(min(told.values()), 20)

    def parting(self, device, rule, other, other_rule, service, slots):
        """All scripts of the fewest slots, up to so many, that part both; each with the word that belongs to it."""
        for many in range(slots + 1):
            found = []
            for script in all_scripts(service, len(rule) - 1, many):
                one = has_clash(device, rule, service, script)
                if one != has_clash(other, other_rule, service, script):
                    found.append((script, "one" if one else "other"))
            if found:
                return found
        return []

    def check_shown(self, device, rule, other, other_rule, service, result, parting):
        if not parting:
            return
        self.assertEqual(len(result[1]), len(parting[0][0]))
        parting = dict(parting)
        for script in all_scripts(service, len(rule) - 1, len(result[1]))[:80] + list(parting)[:20]:
            for word in ("one", "other"):
                self.assertIs(shows_alike(device, rule, other, other_rule, service, ("parts", script, word)),
                              parting.get(script) == word)

    def test_alike_in_many_ways(self):
        choice = random.Random(73)
        for device, rule in cases(74, 2, 12):
            order = tuple(choice.sample(range(len(device.stages[0])), len(device.stages[0])))
            other, other_rule = with_lanes(device, 0, order), rule_with_lanes(device, rule, 0, order)
            for service in TOLD_SERVICES:
                self.assertEqual(alike(device, rule, other, other_rule, service), ("alike",))
                self.assertEqual(alike(device, rule, device, rule, service), ("alike",))

    def test_greater_sizes(self):
        choice = random.Random(75)
        many = 0
        for device, rule in cases(76, 3, 15):
            other_rule = made_rule(choice, device, len(rule) - 1)
            for service in TOLD_SERVICES:
                told = alike(device, rule, device, other_rule, service)
                self.assertIs(shows_alike(device, rule, device, other_rule, service, told), True)
                for _ in range(3):
                    script = made_script(choice, service, len(rule) - 1, len(told[1]) - 1 if told[1:] else 12)
                    self.assertIs(has_clash(device, rule, service, script),
                                  has_clash(device, other_rule, service, script))
                if told != ("alike",):
                    many += 1
                    self.check_value(device, rule, device, other_rule, service, told)
                    turned_told = alike(device, other_rule, device, rule, service)
                    self.assertEqual(len(turned_told[1]), len(told[1]))
                    word = "one" if told[2] == "other" else "other"
                    for value, shown in (((told[0], told[1], word), True), (told, False)):
                        self.assertIs(shows_alike(device, other_rule, device, rule, service, value), shown)
        self.assertGreater(many, 20)

    def test_scripts_of_many_slots(self):
        """One row goes by the first stage or by the second: one packet a slot is led past another far later only."""
        for great, stages in ((4, "stage 0 1 2 3"), (16, "stage 0 1 2 3\nstage 0 4 8 12"),
                              (256, "stage 0 1 2 3\nstage 0 4 8 12\nstage 0 16 32 48\nstage 0 64 128 192")):
            device = Device(f"stage 0 {great}\nstage 0 {great}\n{stages}")
            figures = len(device) - 2
            rule = tuple((0, 0) + tuple(x // 4 ** i % 4 for i in range(figures)) for x in range(great))
            one, two = (rule + (row + (0,) * figures,) for row in ((1, 0), (0, 1)))
            self.assertEqual([is_rule(device, one), is_rule(device, two)], [True, True])
            for service in (("order", 1), ("any", 1)):
                told = alike(device, one, device, two, service)
                self.assertEqual([len(told[1]), told[2]], [great + 1, "one"])
                self.check_value(device, one, device, two, service, told)
                for value, shown in ((told, True), (("parts", told[1] + ((),), "one"), False),
                                     (("parts", ((),) + told[1], "one"), False), (("parts", told[1], "other"), False)):
                    self.assertIs(shows_alike(device, one, device, two, service, value), shown)
            for service in TOLD_SERVICES:
                if service[1] > 1:
                    self.assertEqual(len(alike(device, one, device, two, service)[1]), 1)

    def test_rules_of_401_rows(self):
        device = Device("stage 0 1 2 3\nstage 0 4 8 12\nstage 0 16 32 48\nstage 0 64 128 192\nstage 0 256\nstage 0 1")
        rule = tuple(tuple(x // 4 ** i % 4 for i in range(5)) + (0,) for x in range(401))
        other_rule = rule[:400] + ((3, 3, 0, 2, 1, 1),)
        self.assertEqual([is_rule(device, rule), is_rule(device, other_rule)], [True, True])
        for service in (("order", 1), ("any", 4)):
            self.assertEqual(alike(device, rule, device, rule, service), ("alike",))
            told = alike(device, rule, device, other_rule, service)
            self.check_value(device, rule, device, other_rule, service, told)
            self.assertIs(shows_alike(device, rule, device, other_rule, service, told), True)


class ShowsTest(Checks):
    BACK = (turned(DEVICE), turned_rule(DEVICE, RULE))

    def test_of_devices_that_are_alike(self):
        for service in TOLD_SERVICES:
            self.assertIs(shows_alike(DEVICE, RULE, DEVICE, RULE, service, ("alike",)), True)
            for value in odd_values() + [("parts", (), "one"), ("parts", ((0, 2),), "one"), ["alike"], "alike", (),
                                         ("alike", None), ("alike", ()), ("like",), (("alike",),), ("Alike",), 1,
                                         ("parts",), ("parts", None, None), {"alike": 1}, (DEVICE,), ("alike", "alike")]:
                self.assertIs(shows_alike(DEVICE, RULE, DEVICE, RULE, service, value), False)

    def test_of_devices_that_are_not(self):
        service = ("order", 2)
        for script, word in ((((0, 2),), "one"), (((1, 3),), "one"), (((0, 1),), "other"), (((2, 3),), "other")):
            for other in ("one", "other"):
                self.assertIs(shows_alike(DEVICE, RULE, *self.BACK, service, ("parts", script, other)), word == other)
        good = ("parts", ((1, 3),), "one")
        values = odd_values() + [
            None, ("alike",), (), "parts", ("parts",), ("parts", ((1, 3),)), list(good), good + ("one",), (good,),
            ("part", ((1, 3),), "one"), ("parts", ((1, 3),), "two"), ("parts", ((1, 3),), "One"), (None,) + good[1:],
            ("parts", ((1, 3),), None), ("parts", ((1, 3),), True), ("parts", ((1, 3),), 0), ("parts", ((1, 3),), ["one"]),
            ("parts", ((1, 3), ()), "one"), ("parts", ((), (1, 3)), "one"), ("parts", (), "one"), ("parts", None, "one"),
            ("parts", ((True, 3),), "one"), ("parts", ([1, 3],), "one"), ("parts", [(1, 3)], "one"),
            ("parts", ((3, 1),), "one"), ("parts", ((1, 3, 3),), "one"), ("parts", ((1, 4),), "one"),
            ("parts", ((1, 2, 3),), "one"), ("parts", ((1,),), "one"), ("parts", ((0, 3),), "one"), ("parts", (2,), "one"),
            ("parts", (1, 3), "one"), ("parts", ((),), "one"), ("parts", ((0, 3),), "other"), ("parts", ((-1, 3),), "one"),
            ("parts", ((1, 3),) * 1001, "one"), ("parts", (None,), "one"), ("parts", ((None,),), "other"),
            ("parts", nested(50, tuple), "one"), (DEVICE, ((1, 3),), "one"), ("parts", ((1, 3),), DEVICE),
            ("parts", ((0, 2), 0), "one"), ("parts", ("13",), "one"), {0: "parts", 1: ((1, 3),), 2: "one"},
        ]
        for value in values:
            self.assertIs(shows_alike(DEVICE, RULE, *self.BACK, service, value), False, value)

    def test_false_for_0(self):
        value = ("parts", ((0, 2),), "one")
        self.assertIs(shows_alike(DEVICE, RULE, *self.BACK, ("any", 2), value), True)
        self.assertIs(shows_alike(DEVICE, RULE, *self.BACK, ("any", 2), ("parts", ((False, 2),), "one")), False)
        self.assertIs(shows_alike(DEVICE, RULE, *self.BACK, ("any", 1), value), False)

    def test_a_slot_more(self):
        device = Device("stage 0 1\nstage 0 1\nstage 0 1")
        found = 0
        for one in all_rules(device, 2):
            for two in all_rules(device, 2):
                told = alike(device, one, device, two, ("any", 1))
                if told != ("alike",):
                    found += 1
                    script = told[1]
                    for near in (script + ((),), ((),) + script, script[:-1], script[1:], list(script)):
                        self.assertIs(shows_alike(device, one, device, two, ("any", 1), ("parts", near, told[2])), False)
        self.assertGreater(found, 3)

    def test_both_devices_clash(self):
        # By this script both devices have a clash, each one by other packets.
        value = ("parts", ((0, 2, 3),), "one")
        self.assertEqual([has_clash(DEVICE, RULE, ("order", 3), value[1]),
                          has_clash(*self.BACK, ("order", 3), value[1])], [True, True])
        for word in ("one", "other"):
            self.assertIs(shows_alike(DEVICE, RULE, *self.BACK, ("order", 3), ("parts", ((0, 2, 3),), word)), False)
        self.assertIs(shows_alike(DEVICE, RULE, *self.BACK, ("any", 3), ("parts", ((2, 0),), "one")), True)
        self.assertIs(shows_alike(DEVICE, RULE, *self.BACK, ("any", 3), ("parts", ((2, 0, 3),), "one")), False)


if __name__ == "__main__":
    unittest.main()

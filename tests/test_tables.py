import random
import unittest
from itertools import product

from plain import (ALL_SERVICES, Checks, all_rules, all_scripts, fewest_to_clash, made_rule, made_script,
                   meeting_stages, nested, odd_values, plain_clash_pairs, plain_clashes, plain_packets)
from queueloops.devices import Device, is_rule
from queueloops.errors import BadPair, BadRule, BadService
from queueloops.pairs import can_be, pair_script
from queueloops.runs import clashes_of
from queueloops.services import packets_of
from queueloops.tables import clash_pairs, least_clash, meets, safe_size, serves, shows_least_clash

DEVICE, RULE, TWO = Device("stage 0 1\nstage 0 2"), ((0, 0), (1, 0), (0, 1), (1, 1)), ("queue", 2)
DEVICES = [Device(text) for text in (
    "stage 0 1 2 3",
    "stage 1 0 2\nstage 3 0",
    "stage 0 1\nstage 0 2",
    "stage 0 2\nstage 0 1",
    "stage 0 1\nstage 0 1",
    "stage 0 1\nstage 2 0\nstage 0 1",
    "stage 0 1\nstage 0 1\nstage 0 1",
    "stage 0 2 1\nstage 0 1 2",
)]
GREAT = [Device(text) for text in (
    "stage 0 1 2 3\nstage 0 4 8 12",
    "stage 0 4 8 12\nstage 0 1 2 3",
    "stage 0 1 2\nstage 0 3 6\nstage 0 9 18",
    "stage 0 1\nstage 0 2\nstage 0 4\nstage 0 8\nstage 0 16",
    "stage 0 4\nstage 0 2 1\nstage 1000000 0 1\nstage 0 8",
    "\n".join(["stage 0 1 2 3"] * 4),
)]
BAD_RULES = odd_values() + [
    0, (), ((0, 0), (0, 1)), ((1, 0),), ((0,),), ((0, 0, 0),), ((0, 2),), ((0, 0), [1, 0]), [(0, 0), (1, 0)],
    ([0, 0],), ((0, False),), ((0, 0), (True, 0)), ((0, 0), None), ((0, 0), 1), ((0, 0), (1, (0,))), ((0, 0),) * 402,
]
BAD_SERVICES = odd_values() + [("queue", 0), ("queue", 5), ("queue", True), ["queue", 2], ("line", 2), ("any",), 2]
BAD_PAIRS = odd_values() + [
    0, (), (0,), (0, 0), (0, 0, 1, 0), [0, 0, 1], (-1, 0, 1), (0, -1, 1), (0, 0, -1), (4, 0, 1), (0, 4, 1), (0, 0, 401),
    (True, 0, 1), (0, False, 1), (0, 0, True), (None, 0, 1), (0, 0, None), ((0,), 0, 1), (0, [0], 1), (0, 0, (1,)),
]


def small_cases():
    """(device, rule) of all sizes up to 3, few for each device."""
    choice = random.Random(31)
    for device in DEVICES:
        for size in range(4):
            rules = all_rules(device, size)
            for rule in choice.sample(rules, min(len(rules), 4)):
                yield device, rule


def great_cases(seed, many, most):
    """(device, rule) of sizes up to most."""
    choice = random.Random(seed)
    for device in GREAT:
        for _ in range(many):
            rule = made_rule(choice, device, choice.randint(4, most))
            yield device, rule


class ErrorsTest(Checks):
    def functions(self):
        return [(clash_pairs, ()), (serves, ()), (least_clash, ()), (shows_least_clash, (None,)), (safe_size, ())]

    def test_bad_rules(self):
        for rule in BAD_RULES:
            for function, rest in self.functions():
                self.raises(BadRule, rule, function, DEVICE, rule, TWO, *rest)
                self.raises(BadRule, rule, function, DEVICE, rule, None, *rest)
            self.raises(BadRule, rule, meets, DEVICE, rule, (0, 0, 1))
            self.raises(BadRule, rule, meets, DEVICE, rule, None)

    def test_rules_of_other_devices(self):
        other = Device("stage 0 2\nstage 0 1")
        for function, rest in self.functions():
            self.raises(BadRule, RULE, function, other, RULE, TWO, *rest)

    def test_bad_services(self):
        for service in BAD_SERVICES:
            for function, rest in self.functions():
                self.raises(BadService, service, function, DEVICE, RULE, service, *rest)

    def test_bad_pairs(self):
        for pair in BAD_PAIRS:
            self.raises(BadPair, pair, meets, DEVICE, RULE, pair)

    def test_limits_of_pairs(self):
        for size in range(4):
            rule = RULE[:size + 1]
            for pair in ((0, 0, 0), (size, 0, 400), (0, size, 400), (size, size, 400)):
                self.assertEqual(type(meets(DEVICE, rule, pair)), tuple)
            for pair in ((size + 1, 0, 1), (0, size + 1, 1), (0, 0, 401)):
                self.raises(BadPair, pair, meets, DEVICE, rule, pair)

    def test_arguments_by_name(self):
        told = {"service": ("queue", 3), "rule": RULE, "device": DEVICE}
        self.assertEqual(meets(pair=(0, 2, 0), rule=RULE, device=DEVICE), (0, 1))
        self.assertEqual(clash_pairs(**told), ((0, 2, 0, 0), (1, 3, 0, 0)))
        self.assertIs(serves(**told), False)
        self.assertEqual(least_clash(**told), (3,))
        self.assertIs(shows_least_clash(value=(3,), **told), True)
        self.assertEqual(safe_size(**told), 1)


class MeetsTest(Checks):
    def test_beside_walks_along_the_lanes(self):
        for device, rule in list(small_cases()) + list(great_cases(32, 1, 9)):
            sizes = range(len(rule))
            for pair in product(sizes, sizes, range(len(rule) + 2)):
                self.assertEqual(meets(device, rule, pair), meeting_stages(device, rule, pair)[0])

    def test_pairs_that_can_be_in_no_service(self):
        self.assertEqual(meets(DEVICE, RULE, (3, 3, 0)), (0, 1))
        self.assertEqual(meets(DEVICE, RULE, (1, 0, 1)), (1,))
        self.assertEqual(meets(DEVICE, RULE, (0, 1, 400)), ())

    def test_many_stages(self):
        device = Device("\n".join(["stage 0 1"] * 6))
        self.assertEqual(meets(device, ((0,) * 6, (0, 0, 0, 0, 0, 1)), (0, 1, 0)), (0, 1, 2, 3, 4, 5))
        self.assertEqual(meets(device, ((0,) * 6, (1, 0, 0, 0, 0, 0)), (1, 0, 1)), (1, 2, 3, 4, 5))


class SmallTest(Checks):
    """Beside goings through all that can be under way."""

    def test_clash_pairs(self):
        for device, rule in list(small_cases()) + list(great_cases(33, 1, 9)):
            for service in ALL_SERVICES:
                told = clash_pairs(device, rule, service)
                self.assertEqual(told, plain_clash_pairs(device, rule, service))
                self.assertEqual({type(part) for part in (told,) + told}, {tuple})

    def test_serves_and_least_clash_and_safe_size(self):
        serving = []
        for device, rule in small_cases():
            for service in ALL_SERVICES:
                slots = fewest_to_clash(device, rule, service)
                serving.append(slots is None)
                self.assertIs(serves(device, rule, service), slots is None)
                told = least_clash(device, rule, service)
                self.assertIs(shows_least_clash(device, rule, service, told), True)
                if slots is None:
                    self.assertIsNone(told)
                else:
                    self.check_clash(device, rule, service, told, slots)
                safe = max(size for size in range(len(rule))
                           if fewest_to_clash(device, rule[:size + 1], service) is None)
                self.assertEqual(safe_size(device, rule, service), safe)
        self.assertGreater(min(serving.count(True), serving.count(False)), 300)

    def check_clash(self, device, rule, service, script, slots):
        self.assertEqual([type(script), len(script)], [tuple, slots])
        packets = plain_packets(service, len(rule) - 1, script)
        self.assertIs(type(packets), list)
        self.assertTrue(plain_clashes(device, rule, packets))
        self.assertTrue(clashes_of(device, rule, service, script))

    def test_queues_of_greater_sizes(self):
        told = set()
        for text, size in (("stage 0 1\nstage 0 2\nstage 0 4 6", 7), ("stage 0 1 2\nstage 0 3 6 5", 8),
                           ("stage 0 1\nstage 0 2\nstage 0 3", 6), ("stage 0 1 2\nstage 0 3\nstage 0 6 4", 9),
                           ("stage 0 1\nstage 2 0\nstage 5 4 0", 7)):
            device = Device(text)
            for rule in all_rules(device, size)[::3]:
                for service in ALL_SERVICES[:4]:
                    slots = fewest_to_clash(device, rule, service)
                    told.add(slots)
                    self.assertIs(serves(device, rule, service), slots is None)
                    if slots is not None:
                        self.check_clash(device, rule, service, least_clash(device, rule, service), slots)
        self.assertLessEqual({None, 1, 2, 3, 4, 5, 6, 7, 8}, told)

    def test_all_scripts_of_few_slots(self):
        """A script is shown as a least clash exactly if it has one and is as short as any that has."""
        for device, rule in small_cases():
            for service in (("queue", 2), ("queue", 3), ("order", 1), ("order", 2), ("any", 1), ("any", 2)):
                fewest = None
                for slots in range(4 if service[0] == "queue" else 3):
                    scripts = all_scripts(service, len(rule) - 1, slots)
                    with_clash = [script for script in scripts
                                  if plain_clashes(device, rule, plain_packets(service, len(rule) - 1, script))]
                    if with_clash and fewest is None:
                        fewest = slots
                        self.assertEqual(len(least_clash(device, rule, service)), slots)
                    if with_clash:
                        self.assertIs(serves(device, rule, service), False)
                    for script in scripts[:150]:
                        self.assertIs(shows_least_clash(device, rule, service, script),
                                      script in with_clash and slots == fewest)


class ShowsTest(Checks):
    def test_of_a_rule_that_serves(self):
        self.assertIs(shows_least_clash(DEVICE, RULE, TWO, None), True)
        for value in [value for value in odd_values() if value is not None] + [0, (), (3,), (0,), ((0, 2),), (None,)]:
            self.assertIs(shows_least_clash(DEVICE, RULE, TWO, value), False)

    def test_of_a_rule_that_does_not_serve(self):
        three = ("queue", 3)
        self.assertIs(shows_least_clash(DEVICE, RULE, three, (3,)), True)
        values = odd_values() + [
            [3], (3.0,), ("3",), (2,), (4,), (0,), (3, 0), (0, 3), (), 3, ((3,),), ((0, 2),), (3, 3), (3,) * 1001,
            (0,) * 2000 + (3,), {0: 3}, nested(50, tuple),
        ]
        for value in values:
            self.assertIs(shows_least_clash(DEVICE, RULE, three, value), False, value)

    def test_true_for_one_and_lists_for_tuples(self):
        for service, good, bad in (
                (("order", 2), ((0, 2),), [([0, 2],), [(0, 2)], ((False, 2),), ((0, 2, 3),), ((2, 0),), ((0, 1),)]),
                (("order", 2), ((1, 3),), [((True, 3),), ([1, 3],), [[1, 3]], ((1, 3), ()), ((), (1, 3))]),
                (("any", 2), ((3, 1),), [((3, True),), ([3, 1],), ((3, 1, 1),), ((3, 1), ()), ((3,),), ((3, 4),)])):
            self.assertIs(shows_least_clash(DEVICE, RULE, service, good), True)
            for value in bad + [None, True]:
                self.assertIs(shows_least_clash(DEVICE, RULE, service, value), False, value)

    def test_true_for_one_in_a_queue(self):
        device, rule = Device("stage 0 2\nstage 0 1"), ((0, 0), (0, 1), (1, 0), (1, 1))
        self.assertEqual(least_clash(device, rule, TWO), (2,))
        same = Device("stage 0 1\nstage 0 1\nstage 0 1 2")
        rule = ((0, 0, 0), (1, 0, 0), (0, 0, 2), (1, 0, 2))
        told = least_clash(same, rule, TWO)
        self.assertGreater(len(told), 1)
        for at, count in enumerate(told):
            self.assertIs(shows_least_clash(same, rule, TWO, told[:at] + (count == 1,) + told[at + 1:]), False)
            self.assertIs(shows_least_clash(same, rule, TWO, told[:at] + ((count,),) + told[at + 1:]), False)
            self.assertIs(shows_least_clash(same, rule, TWO, told[:at] + (5,) + told[at + 1:]), False)
        self.assertIs(shows_least_clash(same, rule, TWO, told + (0,)), False)
        self.assertIs(shows_least_clash(same, rule, TWO, (0,) + told), False)
        self.assertIs(shows_least_clash(same, rule, TWO, list(told)), False)
        self.assertIs(shows_least_clash(same, rule, TWO, told[:-1]), False)

    def test_told_values_of_greater_sizes(self):
        for device, rule in great_cases(35, 3, 40):
            for service in ALL_SERVICES:
                told = least_clash(device, rule, service)
                self.assertIs(shows_least_clash(device, rule, service, told), True)
                if told is not None:
                    nothing = 0 if service[0] == "queue" else ()
                    for value in (None, told + (nothing,), (nothing,) + told, list(told), told[:-1]):
                        self.assertIs(shows_least_clash(device, rule, service, value), False)


class GreatTest(Checks):
    def test_least_clash_of_greater_sizes(self):
        """Of the told pairs the one that needs the fewest slots tells how many there are."""
        choice = random.Random(36)
        for device, rule in great_cases(37, 2, 30):
            size = len(rule) - 1
            for service in ALL_SERVICES:
                found = clash_pairs(device, rule, service)
                self.assertEqual(found, tuple(sorted(set(found))))
                self.assertIs(serves(device, rule, service), found == ())
                for clash in choice.sample(found, min(len(found), 20)):
                    self.assertIs(can_be(service, size, clash[:3]), True)
                    self.assertIn(clash[3], meeting_stages(device, rule, clash[:3])[1])
                if found:
                    told = least_clash(device, rule, service)
                    self.assertEqual(len(told), min(len(pair_script(service, size, clash[:3])[0]) for clash in found))
                    self.assertTrue(plain_clashes(device, rule, packets_of(service, size, told)))

    def test_made_scripts_have_no_clash_if_the_rule_serves(self):
        choice = random.Random(38)
        many = 0
        for device, rule in great_cases(39, 2, 30):
            for service in ALL_SERVICES:
                safe = rule[:safe_size(device, rule, service) + 1]
                script = made_script(choice, service, len(safe) - 1, 30)
                self.assertEqual(plain_clashes(device, safe, packets_of(service, len(safe) - 1, script)), ())
                many += len(safe) > 4
        self.assertGreater(many, 20)

    def test_clashes_that_need_many_slots(self):
        device = Device("stage 0 1\nstage 0 2\nstage 0 4\nstage 0 8 10")
        rules = all_rules(device, 13)
        self.assertEqual(len(rules), 2 ** 4)
        slots = [len(least_clash(device, rule, TWO) or ()) for rule in rules]
        self.assertGreater(max(slots), 7)
        for rule in rules[::5]:
            self.assertEqual(len(least_clash(device, rule, TWO) or ()), fewest_to_clash(device, rule, TWO) or 0)

    def test_rules_of_401_rows(self):
        device = Device("stage 0 1 2 3\nstage 0 4 8 12\nstage 0 16 32 48\nstage 0 64 128 192\nstage 0 256")
        rule = tuple((x % 4, x // 4 % 4, x // 16 % 4, x // 64 % 4, x // 256) for x in range(401))
        self.assertIs(is_rule(device, rule), True)
        for most in (1, 2, 3, 4):
            self.assertIs(serves(device, rule, ("queue", most)), True)
            self.assertIsNone(least_clash(device, rule, ("queue", most)))
            self.assertEqual(safe_size(device, rule, ("queue", most)), 400)
            self.assertEqual(clash_pairs(device, rule, ("queue", most)), ())
        self.assertIs(serves(device, rule, ("order", 1)), False)
        self.assertEqual(len(least_clash(device, rule, ("order", 1))), 2)
        self.assertEqual(safe_size(device, rule, ("order", 1)), 15)
        self.assertEqual(safe_size(device, rule, ("any", 2)), 3)


class SafeSizeTest(Checks):
    def test_no_beginning_some_and_all(self):
        device, rule = Device("stage 0 1\nstage 0 1\nstage 0 4"), ((0, 0, 0), (0, 1, 0), (1, 1, 0))
        self.assertEqual(safe_size(device, rule, TWO), 0)
        self.assertEqual(safe_size(DEVICE, RULE, ("queue", 3)), 1)
        self.assertEqual(safe_size(DEVICE, RULE, TWO), 3)
        self.assertEqual(safe_size(DEVICE, RULE[:1], ("any", 4)), 0)

    def test_the_first_rows_serve_just_up_to_it(self):
        told = set()
        for device, rule in great_cases(40, 2, 30):
            for service in ALL_SERVICES:
                safe = safe_size(device, rule, service)
                told.add((safe > 0) + (safe == len(rule) - 1))
                for size in range(len(rule)):
                    self.assertIs(serves(device, rule[:size + 1], service), size <= safe)
        self.assertEqual(told, {0, 1, 2})


class ForAllTest(Checks):
    """The paragraph FOR ALL devices, rules and services."""

    def test_for_all(self):
        cases = list(small_cases()) + list(great_cases(41, 4, 60))
        for device, rule in cases:
            told = {service: serves(device, rule, service) for service in ALL_SERVICES}
            for service in ALL_SERVICES:
                self.assertIs(told[service], clash_pairs(device, rule, service) == ())
            for most in (1, 2, 3, 4):
                self.assertLessEqual(told["any", most], told["order", most])
                self.assertLessEqual(told["order", most], told["queue", most])
                for fewer in range(1, most):
                    for word in ("queue", "order", "any"):
                        self.assertLessEqual(told[word, most], told[word, fewer])

    def test_first_rows_of_what_serves_serve(self):
        for device, rule in list(small_cases()) + list(great_cases(42, 1, 20)):
            for service in ALL_SERVICES:
                told = [serves(device, rule[:size], service) for size in range(1, len(rule) + 1)]
                self.assertEqual(told, sorted(told, reverse=True))
                self.assertIs(told[0], True)

    def test_arguments_are_not_changed_and_calls_are_alike(self):
        for device, rule in great_cases(43, 1, 12):
            for service in ALL_SERVICES:
                kept = repr((device.text, rule, service))
                self.assertEqual(clash_pairs(device, rule, service), clash_pairs(Device(device.text), rule, service))
                self.assertEqual(least_clash(device, rule, service), least_clash(Device(device.text), rule, service))
                self.assertEqual(repr((device.text, rule, service)), kept)


if __name__ == "__main__":
    unittest.main()

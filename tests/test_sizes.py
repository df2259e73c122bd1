import random
import unittest
from itertools import permutations, product

from plain import ALL_SERVICES, Checks, all_rules, fewest_to_clash, nested, odd_values, plain_clash_pairs
from queueloops.devices import Device, device_text, is_rule, rows_of, rules_many
from queueloops.errors import BadNumber, BadService, TooMany
from queueloops.sizes import greatest_rule, serving_rules, shows_greatest, why_no_more
from queueloops.tables import serves

DEVICE, SAME, TWO = Device("stage 0 1\nstage 0 2"), Device("stage 0 1\nstage 0 1"), ("queue", 2)
BAD_SERVICES = odd_values() + [("queue", 0), ("queue", 5), ("queue", True), ["queue", 2], ("line", 2), ("any",), 2]
TINY = [Device(text) for text in (
    "stage 0 1", "stage 1 2", "stage 1 0 2\nstage 3 0", "stage 0 1\nstage 0 2", "stage 0 2\nstage 0 1",
    "stage 0 1\nstage 0 1", "stage 0 1\nstage 1 2", "stage 2 0 1\nstage 0 1", "stage 0 1\nstage 2 0\nstage 0 1",
    "stage 0 1 2 3", "stage 0 1 2 4", "stage 0 3\nstage 0 1 2", "stage 0 1\nstage 0 5\nstage 0 2",
)]
SMALL = [Device(text) for text in (
    "stage 0 1 2\nstage 0 3 1", "stage 0 1\nstage 0 2\nstage 0 4", "stage 0 4\nstage 0 2\nstage 0 1",
    "stage 0 1\nstage 0 1\nstage 0 1\nstage 0 1", "stage 0 1 2 3\nstage 0 4 8 1", "stage 1 0\nstage 0 3 2 1\nstage 2 0",
    "stage 0 1\nstage 0 2\nstage 0 1\nstage 0 3", "stage 0 1 3\nstage 0 2\nstage 0 1000000", "stage 0 1 2\nstage 0 1 2",
    "stage 0 2 1\nstage 3 0 2", "stage 0 1\nstage 0 2\nstage 2 0\nstage 0 1",
)]
# 64 rows with all delays up to 15, and a device of 64 rows with all delays up to 16.
FULL = Device("stage 0 1 2 3\nstage 0 4\nstage 0 8\nstage 0 100\nstage 0 200")
OVER = Device("stage 0 1 2 3\nstage 0 4 8 12\nstage 0 16 32 48")


def by_rows(device, service, does_serve):
    """A list with all rules that serve, for each size from 0 on, up to the first one for which there is none."""
    told, rules, rows = [], [()], rows_of(device)
    while rules:
        longer = [rule + (row,) for rule in rules for row in rows if is_rule(device, rule + (row,))]
        rules = [rule for rule in longer if does_serve(device, rule, service)]
        told += [rules] if rules else []
    return told


def all_delays(device):
    return {sum(lengths) for lengths in product(*device.stages)}


def told_by_pairs(device, rule, service):
    return plain_clash_pairs(device, rule, service) == ()


def told_by_going(device, rule, service):
    return fewest_to_clash(device, rule, service) is None


class ErrorsTest(Checks):
    def functions(self):
        return [(greatest_rule, ()), (shows_greatest, (None,)), (why_no_more, ()), (serving_rules, (0,)),
                (serving_rules, (None,)), (serving_rules, (401,))]

    def test_bad_services(self):
        for service in BAD_SERVICES:
            for device in (DEVICE, OVER, Device("\n".join(["stage 0 1 2 3"] * 4))):
                for function, rest in self.functions():
                    self.raises(BadService, service, function, device, service, *rest)

    def test_too_many_rows(self):
        for text in ("\n".join(["stage 0 1 2 3"] * 4), "\n".join(["stage 0 1"] * 5 + ["stage 0 1 2"]),
                     "\n".join(["stage 0 100 200 300"] * 6), "\n".join(["stage 5 6 7 8"] * 4),
                     "stage 0 1 2\nstage 0 3 6\nstage 0 1 2\nstage 0 5 1"):
            device = Device(text)
            self.assertGreater(len(rows_of(device)), 64)
            for function, rest in self.functions():
                self.raises(TooMany, "rows", function, device, TWO, *rest)

    def test_64_rows_and_one_delay_lacking(self):
        for text in (FULL.text, "\n".join(["stage 0 1"] * 6), "\n".join(["stage 0 1 2 3"] * 3),
                     "stage 0 1 2 3\nstage 0 4 8 12\nstage 0 17 34 50"):
            device = Device(text)
            self.assertEqual(len(rows_of(device)), 64)
            for service in ALL_SERVICES:
                size, rule = greatest_rule(device, service)
                self.assertEqual(len(rule), size + 1)
                self.assertIs(serves(device, rule, service), True)
                self.assertEqual(serving_rules(device, service, size + 1), 0)

    def test_too_many_delays(self):
        for text in (OVER.text, "stage 0 1\nstage 0 2\nstage 0 4\nstage 0 8\nstage 0 16",
                     "stage 0 16 1\nstage 2 0\nstage 4 0\nstage 0 8", "stage 0 1 2 3\nstage 0 4 8 12\nstage 0 4"):
            for function, rest in self.functions():
                self.raises(TooMany, "delays", function, Device(text), TWO, *rest)

    def test_delays_up_to_15_and_more_behind(self):
        for text in ("stage 0 1\nstage 0 2\nstage 0 4\nstage 0 8", "stage 0 1 2 3\nstage 0 4 8 12",
                     "stage 0 1\nstage 0 2\nstage 0 4\nstage 0 8\nstage 0 17", FULL.text):
            device = Device(text)
            self.assertEqual(greatest_rule(device, TWO)[0], 15)
            self.assertEqual(why_no_more(device, TWO), ("lacks", 16))

    def test_one_delay_up_to_16_is_lacking(self):
        for least, text in ((0, "stage 1 2 3 4\nstage 0 4 8 12"), (1, "stage 0 2 3 4\nstage 0 5 6 8\nstage 0 9"),
                            (7, "stage 0 1\nstage 0 5 3 2\nstage 0 8 11"), (11, "stage 0 1\nstage 0 4 7 2\nstage 0 13 5"),
                            (15, "stage 0 1\nstage 0 1 8 4\nstage 0 5 2 8"), (16, "stage 0 1 2 3\nstage 0 4 8 12")):
            device = Device(text)
            self.assertEqual([delay for delay in range(17) if delay not in all_delays(device)], [least])
            self.assertEqual(greatest_rule(device, ("queue", 1))[0], least - 1)
            self.assertEqual(why_no_more(device, ("queue", 1)), ("lacks", least))

    def test_bad_sizes(self):
        for size in odd_values() + [-1, 401, 10 ** 39, (0,), 1.0]:
            for device in (DEVICE, SAME, Device("stage 1 2")):
                self.raises(BadNumber, size, serving_rules, device, TWO, size)

    def test_sizes_from_0_to_400(self):
        for size in range(4, 401):
            self.assertEqual(serving_rules(DEVICE, TWO, size), 0)
        self.assertEqual([serving_rules(DEVICE, TWO, size) for size in range(4)], [1, 1, 1, 1])
        self.assertEqual(serving_rules(Device("stage 1 2"), TWO, 0), 0)
        self.assertEqual(serving_rules(Device("stage 1 2"), TWO, 400), 0)

    def test_arguments_by_name(self):
        rule = ((0, 0), (1, 0))
        self.assertEqual(greatest_rule(service=("queue", 3), device=DEVICE), (1, rule))
        self.assertIs(shows_greatest(value=(1, rule), service=("queue", 3), device=DEVICE), True)
        self.assertEqual(why_no_more(service=("queue", 3), device=DEVICE), ("gone through", 2))
        self.assertEqual(serving_rules(size=1, service=("queue", 3), device=DEVICE), 1)


class RulesTest(Checks):
    """Beside all rules, row by row."""

    def check(self, device, service, told):
        greatest = len(told) - 1
        size, rule = result = greatest_rule(device, service)
        self.assertEqual([type(result), type(size), type(rule)], [tuple, int, tuple])
        self.assertEqual(size, greatest)
        self.assertIn(rule, told[-1] if told else [()])
        self.assertIs(shows_greatest(device, service, result), True)
        word, number = reason = why_no_more(device, service)
        self.assertEqual([type(reason), number], [tuple, greatest + 1])
        self.assertEqual(word, "gone through" if rules_many(device, number) else "lacks")
        for size in range(18):
            self.assertEqual(serving_rules(device, service, size), len(told[size]) if size < len(told) else 0)
        for rules in told:
            for rule in rules[:60]:
                self.assertIs(shows_greatest(device, service, (len(rule) - 1, rule)), len(rule) == greatest + 1)
        return word

    def test_tiny_devices_by_goings(self):
        """By all that can be under way, at whatever length of scripts."""
        words = set()
        for device in TINY[:9]:
            for service in ALL_SERVICES:
                words.add(self.check(device, service, by_rows(device, service, told_by_going)))
        self.assertEqual(words, {"lacks", "gone through"})

    def test_tiny_devices_by_pairs(self):
        for device in TINY[9:]:
            for service in ALL_SERVICES:
                self.check(device, service, by_rows(device, service, told_by_pairs))

    def test_small_devices(self):
        greatest = set()
        for device in SMALL:
            for service in ALL_SERVICES[1:]:
                told = by_rows(device, service, serves)
                self.check(device, service, told)
                greatest.add(len(told) - 1)
        self.assertGreater(len(greatest), 6)

    def test_made_devices(self):
        choice = random.Random(51)
        for _ in range(40):
            stages = tuple(tuple(choice.sample(range(6), choice.randint(2, 3))) for _ in range(choice.randint(1, 3)))
            device = Device(device_text(stages))
            for service in choice.sample(ALL_SERVICES[1:], 4):
                self.check(device, service, by_rows(device, service, serves))

    def test_all_rules_of_the_size_behind_do_not_serve(self):
        for device in SMALL:
            for service in ALL_SERVICES:
                size, rule = greatest_rule(device, service)
                self.assertIs(is_rule(device, rule), True)
                if rules_many(device, size + 1) < 3000:
                    for longer in all_rules(device, size + 1):
                        self.assertIs(serves(device, longer, service), False)

    def test_no_row_of_the_delay_0(self):
        for text in ("stage 1 2", "stage 0 1\nstage 3 1 2", "stage 4 5\nstage 6 7\nstage 0 1"):
            for service in ALL_SERVICES:
                device = Device(text)
                self.assertEqual(greatest_rule(device, service), (-1, ()))
                self.assertEqual(why_no_more(device, service), ("lacks", 0))
                self.assertEqual([serving_rules(device, service, size) for size in (0, 1, 5, 400)], [0, 0, 0, 0])
                self.assertIs(shows_greatest(device, service, (-1, ())), True)
                for value in odd_values() + [(-1, []), [-1, ()], (-1,), (-1, (), ()), (-1, None), (0, ()), (-1, ((),)),
                                             (-1, ((0,),)), (-1.0, ()), ("-1", ()), (None, ()), (), -1, (-2, ())]:
                    self.assertIs(shows_greatest(device, service, value), False)

    def test_more_than_20000_rules(self):
        device = Device("stage 0 1 2 3\nstage 0 1 2 3\nstage 0 1 2 3")
        many = [1, 3, 18, 180, 2160, 25920, 259200, 1555200, 4665600, 4665600]
        self.assertEqual([rules_many(device, size) for size in range(10)], many)
        # By ("queue", 1) no packet ever waits, so each rule serves.
        for size, rules in enumerate(many):
            if rules > 20000:
                self.raises(TooMany, "rules", serving_rules, device, ("queue", 1), size)
            else:
                self.assertEqual(serving_rules(device, ("queue", 1), size), rules)
        self.assertEqual(serving_rules(device, ("queue", 1), 10), 0)
        self.assertEqual(greatest_rule(device, ("queue", 1))[0], 9)

    def test_just_20000_rules_and_a_few_more(self):
        device = Device("stage 0 2\nstage 0 4 1\nstage 0 1\nstage 0 4\nstage 0 4")
        self.assertEqual(rules_many(device, 8), 20000)
        self.assertEqual(serving_rules(device, ("queue", 1), 8), 20000)
        device = Device("stage 0 4\nstage 0 2 1\nstage 0 1 4 3\nstage 0 2")
        self.assertGreater(rules_many(device, 10), 20000)
        self.assertEqual(serving_rules(device, ("order", 1), 10), 20000)
        # Of this one 20,003 rules serve.
        device = Device("stage 0 1 2\nstage 0 1 4\nstage 0 2\nstage 0 1 4")
        self.raises(TooMany, "rules", serving_rules, device, ("order", 1), 9)

    def test_bad_size_is_told_ahead_of_too_many_rules(self):
        device = Device("stage 0 1 2 3\nstage 0 1 2 3\nstage 0 1 2 3")
        self.raises(BadNumber, 401, serving_rules, device, ("queue", 1), 401)
        self.raises(BadNumber, True, serving_rules, device, ("queue", 1), True)

    def test_by_figures(self):
        for text, size in (("stage 0 1\nstage 0 2\nstage 0 4\nstage 0 8", 15), ("stage 0 1 2 3\nstage 0 4 8 12", 15),
                           ("stage 0 1 2\nstage 0 3 6", 8), ("stage 0 1\nstage 0 2\nstage 0 4", 7)):
            device = Device(text)
            self.assertEqual(greatest_rule(device, ("queue", len(device.stages[0])))[0], size)
            self.assertEqual(serving_rules(device, TWO, size), 1)


class ShowsTest(Checks):
    def test_other_values(self):
        service = ("queue", 3)
        rule = ((0, 0), (1, 0))
        self.assertIs(shows_greatest(DEVICE, service, (1, rule)), True)
        values = odd_values() + [
            None, (), 1, rule, (1,), (1, rule, rule), [1, rule], (True, rule), (1.0, rule), ("1", rule), (0, rule),
            (2, rule), (1, ((0, 0),)), (0, ((0, 0),)), (1, ((0, 0), (0, 1))), (1, [(0, 0), (1, 0)]), (-1, ()),
            (1, ((0, 0), [1, 0])), (1, ((0, 0), (True, 0))), (1, ((False, 0), (1, 0))), (1, ((0, 0), (1, False))),
            (2, ((0, 0), (1, 0), (0, 1))), (1, ((0, 0), (1, 0), (0, 1))), (1, ()), (1, None), (None, rule), (1, 1),
            (3, ((0, 0), (1, 0), (0, 1), (1, 1))), (rule, 1), {1: rule}, (1, ((0, 0),) * 402), (1, nested(50, tuple)),
            (1, DEVICE), (DEVICE, rule), (1, ((0,), (1,))), (1, ((0, 0, 0), (1, 0, 0))), (10 ** 39, rule),
        ]
        for value in values:
            self.assertIs(shows_greatest(DEVICE, service, value), False, value)

    def test_true_for_1_where_the_size_is_1(self):
        rules = [((0, 0), row) for row in ((0, 1), (1, 0))]
        self.assertEqual([shows_greatest(SAME, TWO, (1, rule)) for rule in rules], [False, True])
        self.assertEqual([shows_greatest(SAME, TWO, (True, rule)) for rule in rules], [False, False])

    def test_false_for_0_where_the_size_is_0(self):
        device = Device("stage 0 2")
        self.assertEqual(greatest_rule(device, TWO), (0, ((0,),)))
        self.assertIs(shows_greatest(device, TWO, (0, ((0,),))), True)
        self.assertIs(shows_greatest(device, TWO, (False, ((0,),))), False)
        self.assertIs(shows_greatest(device, TWO, (0, ((False,),))), False)

    def test_each_rule_that_serves_and_no_other_one(self):
        for device in SMALL[:6]:
            for service in (("queue", 2), ("order", 1), ("any", 2)):
                size, _ = greatest_rule(device, service)
                if rules_many(device, size) < 700:
                    for rule in all_rules(device, size):
                        self.assertIs(shows_greatest(device, service, (size, rule)), serves(device, rule, service))


class ForAllTest(Checks):
    """The paragraph FOR ALL devices and services."""

    def devices(self):
        choice = random.Random(52)
        for _ in range(25):
            stages = tuple(tuple(choice.sample(range(8), choice.randint(2, 4))) for _ in range(choice.randint(1, 3)))
            stages = tuple((0,) + lengths[1:] if 0 not in lengths else lengths for lengths in stages)
            if not set(range(17)) <= all_delays(Device(device_text(stages))):
                yield Device(device_text(stages))

    def test_sizes_up_to_the_greatest(self):
        for device in list(self.devices()) + SMALL:
            for service in ALL_SERVICES[1:]:
                size, _ = greatest_rule(device, service)
                for other in range(17):
                    try:
                        many = serving_rules(device, service, other)
                    except TooMany:
                        many = 20001
                    self.assertIs(many > 0, other <= size)

    def test_services(self):
        for device in list(self.devices()) + SMALL + TINY:
            told = {service: greatest_rule(device, service)[0] for service in ALL_SERVICES}
            for most in (1, 2, 3, 4):
                self.assertLessEqual(told["any", most], told["order", most])
                self.assertLessEqual(told["order", most], told["queue", most])
                for fewer in range(1, most):
                    for word in ("queue", "order", "any"):
                        self.assertLessEqual(told[word, most], told[word, fewer])

    def test_lanes_in_another_sequence(self):
        choice = random.Random(53)
        for device in list(self.devices()) + SMALL:
            stages = tuple(tuple(choice.sample(lengths, len(lengths))) for lengths in device.stages)
            for service in ALL_SERVICES:
                told = greatest_rule(Device(device_text(stages)), service)
                self.assertEqual(told[0], greatest_rule(device, service)[0])

    def test_stages_in_another_sequence_may_tell_otherwise(self):
        told = [greatest_rule(Device(device_text(stages)), TWO)[0]
                for stages in permutations(((0, 1), (0, 2), (0, 4)))]
        self.assertEqual(told[0], 7)
        self.assertLess(min(told), 7)

    def test_calls_are_alike_and_change_nothing(self):
        for device in SMALL:
            for service in ALL_SERVICES:
                kept = repr((device.text, device.stages, service))
                twin = Device(device.text)
                self.assertEqual(greatest_rule(device, service), greatest_rule(twin, service))
                self.assertEqual(why_no_more(device, service), why_no_more(twin, service))
                self.assertEqual(repr((device.text, device.stages, service)), kept)


if __name__ == "__main__":
    unittest.main()

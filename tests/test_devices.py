import random
import unittest
from itertools import product

from plain import Checks, nested, odd_values
from queueloops.devices import (Device, delays_of, device_text, is_rule, least_rule, row_delay, rows_for, rows_of,
                                rules_many)
from queueloops.errors import BadDevice, BadNumber, BadRow, BadStages, LacksDelay, LoopError

DEVICE = Device("stage 0 1\nstage 2 0\nstage 0 1")
TEXTS = [
    "stage 0 1",
    "stage 1 0",
    "stage 5 3 1000000 0",
    "stage 0 1\nstage 0 2 4\nstage 0 6 12 18",
    "stage 1 2\nstage 1 2",
    "stage 3 0 1\nstage 7 2\nstage 0 1 2 3",
    "\n".join(["stage 0 1 2 3"] * 6),
]


class DeviceTest(Checks):
    def test_text_and_stages(self):
        device = Device("stage 5 3 1000000 0\nstage 0 1\nstage 2 1 0")
        self.assertEqual(device.text, "stage 5 3 1000000 0\nstage 0 1\nstage 2 1 0")
        self.assertEqual(device.stages, ((5, 3, 1000000, 0), (0, 1), (2, 1, 0)))
        self.assertTrue(all(type(lengths) is tuple for lengths in device.stages))

    def test_len_is_the_number_of_stages(self):
        for many in range(1, 7):
            self.assertEqual(len(Device("\n".join(["stage 0 1 2"] * many))), many)

    def test_attributes_are_set_on_the_object(self):
        self.assertEqual(sorted(vars(DEVICE)), ["stages", "text"])

    def test_equal_texts(self):
        for one in TEXTS:
            for other in TEXTS:
                self.assertIs(Device(one) == Device(other), one == other)
                self.assertIs(Device(one) != Device(other), one != other)

    def test_lanes_in_another_sequence_are_not_equal(self):
        self.assertFalse(Device("stage 0 1") == Device("stage 1 0"))

    def test_equal_to_nothing_else(self):
        device = Device("stage 0 1")
        for value in ["stage 0 1", ((0, 1),), 1, 0, (device,), [device], None, True, BadDevice(1)]:
            self.assertFalse(device == value)
            self.assertTrue(device != value)
            self.assertFalse(value == device)

    def test_no_string(self):
        for value in odd_values() + [0, 1, ((0, 1),), ("stage 0 1",)]:
            if not isinstance(value, str):
                self.raises(BadDevice, 0, Device, value)

    def test_lines_that_are_not_as_told(self):
        lines = [
            "", " ", "stage", "stage ", "stage 0", "stage 0 ", "stage 0 1 ", " stage 0 1", "stage  0 1", "stage 0  1",
            "stage 0 1 2 3 4", "stage 0 0", "stage 0 1 0", "stage 3 1 2 3", "stages 0 1", "Stage 0 1", "STAGE 0 1",
            "0 1", "lane 0 1", "stage0 1", "stage\t0 1", "stage 0\t1", "stage 00 1", "stage 0 01", "stage 0 +1",
            "stage 0 -1", "stage -0 1", "stage 0 1.0", "stage 0 1e1", "stage 0 1_0", "stage 0 0x1", "stage 0 one",
            "stage 0,1", "stage 0 1000001", "stage 0 999999999", "stage 0 1000000000", "stage 0 " + "9" * 5000,
            "stage 0 0000000001", "stage 0 True", "stage 0 1 stage", "stage 0 \"1\"", "stage 0 1 2 3 ",
        ]
        good = "stage 0 1"
        for line in lines:
            for at in range(1, 7):
                rows = [good] * 6
                rows[at - 1] = line
                with self.subTest(line=line[:20], at=at):
                    self.raises(BadDevice, at, Device, "\n".join(rows))
                    self.raises(BadDevice, at, Device, "\n".join(rows[:at]))

    def test_the_first_such_line_is_told(self):
        self.raises(BadDevice, 2, Device, "stage 0 1\nstage 0\nstage 0 1\nstage")
        self.raises(BadDevice, 3, Device, "\n".join(["stage 0 1"] * 2 + ["x"] + ["stage 0 1"] * 5))

    def test_the_seventh_line(self):
        self.raises(BadDevice, 7, Device, "\n".join(["stage 0 1"] * 7))
        self.raises(BadDevice, 7, Device, "\n".join(["stage 0 1"] * 9))
        self.raises(BadDevice, 7, Device, "\n".join(["stage 0 1"] * 6 + ["x"]))
        self.raises(BadDevice, 7, Device, "\n".join(["stage 0 1"] * 6) + "\n")

    def test_empty_lines(self):
        self.raises(BadDevice, 1, Device, "")
        self.raises(BadDevice, 1, Device, "\n")
        self.raises(BadDevice, 1, Device, "\nstage 0 1")
        self.raises(BadDevice, 2, Device, "stage 0 1\n")
        self.raises(BadDevice, 2, Device, "stage 0 1\n\nstage 0 1")

    def test_great_texts(self):
        self.raises(BadDevice, 7, Device, "\n".join(["stage 0 1"] * 9000))
        self.raises(BadDevice, 1, Device, "stage" + " 1" * 49000)

    def test_greatest_and_least_lengths(self):
        self.assertEqual(Device("stage 1000000 0 999999").stages, ((1000000, 0, 999999),))

    def test_device_and_its_text_there_and_back(self):
        for text in TEXTS:
            self.assertEqual(device_text(Device(text).stages), text)
            self.assertEqual(Device(device_text(Device(text).stages)), Device(text))


class DeviceTextTest(Checks):
    def test_texts(self):
        self.assertEqual(device_text(((0, 5), (3, 1, 2))), "stage 0 5\nstage 3 1 2")
        self.assertEqual(device_text(stages=((1000000, 0, 7, 3),)), "stage 1000000 0 7 3")
        self.assertEqual(device_text(((0, 1),) * 6), "\n".join(["stage 0 1"] * 6))

    def test_what_no_stages_can_be(self):
        values = odd_values() + [
            0, (), ((),), ((0,),), ((0, 1, 2, 3, 4),), ((0, 0),), ((1, 2, 1),), ((0, 1),) * 7, ((0, 1), ()),
            ((0, 1), (0, -1)), ((0, 1000001),), ((0, 1), [0, 1]), [(0, 1)], ([0, 1],), ((0, True),), ((False, 1),),
            ((0, "1"),), ((0, None),), ((0, (1,)),), ((0, [1]),), ((0, {}),), (0, 1), "stage 0 1", ("stage 0 1",),
            ((0, 1), None), ((0, 10 ** 40),), ((1, True),), ((0, nested(55, tuple)),), ("01",), ({0: 1, 1: 2},),
            Device("stage 0 1"),
        ]
        for value in values:
            with self.subTest(value=value):
                self.raises(BadStages, value, device_text, value)


class RowsTest(Checks):
    def test_all_rows_ascending(self):
        for text in TEXTS:
            device = Device(text)
            rows = rows_of(device)
            self.assertIs(type(rows), tuple)
            self.assertEqual(rows, tuple(product(*[range(len(lengths)) for lengths in device.stages])))
            self.assertEqual(list(rows), sorted(rows))

    def test_delays_of_rows(self):
        for text in TEXTS[:-1]:
            device = Device(text)
            for row in rows_of(device):
                plain = 0
                for stage, lane in enumerate(row):
                    plain += device.stages[stage][lane]
                self.assertEqual(row_delay(device, row), plain)
        self.assertEqual(row_delay(row=(0, 0, 1), device=DEVICE), 3)
        self.assertEqual(row_delay(Device("stage 1000000 0\nstage 0 1000000"), (0, 1)), 2000000)

    def test_what_is_no_row(self):
        values = odd_values() + [
            0, (), (0,), (0, 0), (0, 0, 0, 0), (0, 0, 2), (2, 0, 0), (0, -1, 0), (0, 0, True), (False, 0, 0),
            [0, 0, 0], (0, 0, None), (0, 0, "0"), (0, 0, (0,)), (0, 0, [0]), "000", ((0, 0, 0),), (0, 0, 10 ** 40),
            {0: 0, 1: 0, 2: 0}, Device("stage 0 1\nstage 0 1\nstage 0 1"), (0, 0, nested(55, list)),
        ]
        for value in values:
            with self.subTest(value=value):
                self.raises(BadRow, value, row_delay, DEVICE, value)

    def test_row_is_told_by_the_lanes_of_its_own_stage(self):
        device = Device("stage 0 1\nstage 0 1 2 3")
        self.assertEqual(row_delay(device, (1, 3)), 4)
        self.raises(BadRow, (3, 1), row_delay, device, (3, 1))
        self.raises(BadRow, (1, 4), row_delay, device, (1, 4))

    def test_all_delays(self):
        self.assertEqual(delays_of(Device("stage 0 1\nstage 0 1")), (0, 1, 2))
        self.assertEqual(delays_of(Device("stage 9 2")), (2, 9))
        self.assertEqual(delays_of(Device("stage 10 1\nstage 5 3")), (4, 6, 13, 15))
        for text in TEXTS:
            device = Device(text)
            delays = delays_of(device)
            self.assertIs(type(delays), tuple)
            self.assertEqual(list(delays), sorted(set(row_delay(device, row) for row in rows_of(device))))

    def test_rows_for_a_delay(self):
        for text in TEXTS[:-1]:
            device = Device(text)
            for delay in list(delays_of(device)[:40]) + [0, 1, 17, 10 ** 40 - 1]:
                rows = tuple(row for row in rows_of(device) if row_delay(device, row) == delay)
                self.assertEqual(rows_for(device, delay), rows)
        self.assertEqual(rows_for(delay=1, device=DEVICE), ((0, 1, 1), (1, 1, 0)))

    def test_what_is_no_delay(self):
        for value in odd_values() + [-1, -10 ** 39, (0,), (), (1, 1)]:
            with self.subTest(value=value):
                self.raises(BadNumber, value, rows_for, DEVICE, value)


class RulesTest(Checks):
    def test_what_is_a_rule(self):
        self.assertIs(is_rule(DEVICE, ((0, 1, 0),)), True)
        self.assertIs(is_rule(DEVICE, ((0, 1, 0), (1, 1, 0))), True)
        self.assertIs(is_rule(DEVICE, ((0, 1, 0), (0, 1, 1), (0, 0, 0), (0, 0, 1), (1, 0, 1))), True)
        self.assertIs(is_rule(value=((0, 1, 0),), device=DEVICE), True)

    def test_what_is_no_rule(self):
        values = odd_values() + [
            0, (), ((),), (0, 1, 0), ((0, 1, 1),), ((0, 1, 0), (0, 1, 0)), ((0, 1, 0), (0, 0, 0)), [(0, 1, 0)],
            ([0, 1, 0],), ((0, 1, False),), ((0, True, 0),), ((0, 1, 0), None), ((0, 1, 0), (2, 1, 0)),
            ((0, 1, 0), (0, 1)), ((0, 1, 0), (0, 1, 1, 0)), ((0, 1, 0), ((0, 1, 1),)), ((0, 1, "0"),), {0: (0, 1, 0)},
            ((0, 1, 0), (1, 1, 0), (0, 0, 0), (0, 0, 1), (1, 0, 1), (1, 0, 1)), (((0, 1, 0),),), DEVICE,
        ]
        for value in values:
            with self.subTest(value=value):
                self.assertIs(is_rule(DEVICE, value), False)

    def test_greatest_rule_has_401_rows(self):
        device = Device("stage 0 1 2 3\nstage 0 4 8 12\nstage 0 16 32 48\nstage 0 64 128 192\nstage 0 256")
        rule = tuple((x % 4, x // 4 % 4, x // 16 % 4, x // 64 % 4, x // 256) for x in range(402))
        self.assertIs(is_rule(device, rule[:401]), True)
        self.assertIs(is_rule(device, rule), False)
        self.assertEqual(least_rule(device, 400), rule[:401])
        self.assertEqual(rules_many(device, 400), 1)

    def test_least_rule_takes_the_least_rows(self):
        for text in TEXTS:
            device = Device(text)
            rows = {}
            for row in rows_of(device):
                rows.setdefault(row_delay(device, row), []).append(row)
            size = 0
            while size in rows and size <= 18:
                rule = tuple(min(rows[delay]) for delay in range(size + 1))
                self.assertEqual(least_rule(device, size), rule)
                self.assertIs(is_rule(device, rule), True)
                size += 1
            if size not in rows:
                for more in (size, size + 1, 400):
                    self.raises(LacksDelay, size, least_rule, device, more)
                    self.assertEqual(rules_many(device, more), 0)

    def test_least_rule_at_the_limits(self):
        self.assertEqual(least_rule(size=0, device=DEVICE), ((0, 1, 0),))
        self.assertEqual(least_rule(DEVICE, 4), ((0, 1, 0), (0, 1, 1), (0, 0, 0), (0, 0, 1), (1, 0, 1)))
        self.raises(LacksDelay, 5, least_rule, DEVICE, 5)
        self.raises(LacksDelay, 5, least_rule, DEVICE, 400)
        self.raises(LacksDelay, 0, least_rule, Device("stage 1 2"), 0)
        self.raises(LacksDelay, 0, least_rule, Device("stage 1 2"), 400)
        self.raises(LacksDelay, 1, least_rule, Device("stage 0 2"), 2)

    def test_rules_many(self):
        self.assertEqual([rules_many(DEVICE, size) for size in range(6)], [1, 2, 4, 8, 8, 0])
        self.assertEqual(rules_many(Device("stage 1 2"), 0), 0)
        self.assertEqual(rules_many(Device("stage 0 2"), 0), 1)
        self.assertEqual(rules_many(Device("stage 0 2"), 1), 0)
        self.assertEqual(rules_many(size=400, device=Device("stage 0 1")), 0)

    def test_rules_many_beside_all_rules(self):
        for text in ("stage 0 1\nstage 0 1", "stage 0 1 2\nstage 2 1 0", "stage 3 0\nstage 0 1\nstage 1 0"):
            device = Device(text)
            for size in range(5):
                rules = [rule for rule in product(rows_of(device), repeat=size + 1) if is_rule(device, rule)]
                self.assertEqual(rules_many(device, size), len(rules))

    def test_rules_many_is_told_however_many(self):
        device = Device("\n".join(["stage 0 1 2 3"] * 6))
        many = 1
        for size in range(19):
            many *= len(rows_for(device, size))
            self.assertEqual(rules_many(device, size), many)

    def test_what_is_no_size_of_a_rule(self):
        for value in odd_values() + [-1, 401, 10 ** 40, (0,), ()]:
            with self.subTest(value=value):
                self.raises(BadNumber, value, least_rule, DEVICE, value)
                self.raises(BadNumber, value, rules_many, DEVICE, value)
        self.raises(BadNumber, 401, least_rule, Device("stage 1 2"), 401)


class EqualCallsTest(Checks):
    def test_equal_calls_return_equal_results_and_change_nothing(self):
        one, other = Device(DEVICE.text), Device(DEVICE.text)
        for _ in range(2):
            self.assertEqual(rows_of(one), rows_of(other))
            self.assertEqual(delays_of(one), delays_of(other))
            self.assertEqual(rows_for(one, 1), rows_for(other, 1))
            self.assertEqual(least_rule(one, 4), least_rule(other, 4))
            self.assertEqual(rules_many(one, 4), rules_many(other, 4))
        self.assertEqual([one.text, one.stages], [DEVICE.text, DEVICE.stages])

    def test_lists_that_are_passed_do_not_change(self):
        for function in (device_text, Device, lambda value: row_delay(DEVICE, value)):
            value = [[0, 1], [2, 0]]
            with self.assertRaises(LoopError):
                function(value)
            self.assertEqual(value, [[0, 1], [2, 0]])

    def test_made_devices(self):
        choice = random.Random(4)
        for _ in range(60):
            stages = tuple(tuple(choice.sample(range(9), choice.randint(2, 4))) for _ in range(choice.randint(1, 4)))
            device = Device(device_text(stages))
            self.assertEqual(device.stages, stages)
            self.assertEqual(sorted(row for delay in delays_of(device) for row in rows_for(device, delay)),
                             list(rows_of(device)))


if __name__ == "__main__":
    unittest.main()

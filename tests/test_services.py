import random
import unittest

from plain import (ALL_SERVICES, Checks, all_scripts, all_slots, count_scripts, is_script, made_script, nested,
                   odd_values, plain_packets)
from queueloops.devices import Device
from queueloops.errors import BadCounts, BadNumber, BadScript, BadService, BadSize, BadSlot, TooGreat, TooMany
from queueloops.services import fits, is_service, leaves_of, led_on, packets_of, scripts_many, waiting

QUEUE, ORDER, ANY = ("queue", 2), ("order", 2), ("any", 2)
NOTHING = {"queue": 0, "order": (), "any": ()}
BAD_SERVICES = odd_values() + [
    0, (), ("queue",), ("queue", 1, 1), ("queue", 0), ("queue", 5), ("queue", -1), ("queue", True), ("queue", "1"),
    ("queue", None), ("queue", (1,)), ("queue", [1]), ["queue", 1], ("Queue", 1), ("", 1), ("queues", 1), ("an", 1),
    (1, "queue"), (b"queue", 1), (("queue",), 1), (["queue"], 1), ({}, 1), (None, 1), (0, 1), (True, 1), "queue",
    ("queue", 10 ** 39), (Device("stage 0 1"), 1), (nested(55, tuple), 1), ("queue", nested(55, list)),
]
BAD_SIZES = odd_values() + [-1, 401, 10 ** 39, (0,), (), (1, 2)]
NO_TUPLES = [value for value in odd_values() if not isinstance(value, tuple)] + [0, 1, [], [(0,)], [()]]


class ScriptChecks(Checks):
    def all_raise(self, error, value, service, size, script):
        """All functions of a script raise this."""
        self.raises(error, value, packets_of, service, size, script)
        self.raises(error, value, leaves_of, service, size, script)
        self.raises(error, value, fits, service, size, script)
        self.raises(error, value, led_on, service, size, script, NOTHING.get(service[0], 0))


class ServiceTest(ScriptChecks):
    def test_all_services(self):
        self.assertEqual(len(ALL_SERVICES), 12)
        for service in ALL_SERVICES:
            self.assertIs(is_service(service), True)
            self.assertEqual(packets_of(service, 3, ()), ())
        self.assertIs(is_service(value=("any", 4)), True)

    def test_what_is_no_service(self):
        for value in BAD_SERVICES:
            with self.subTest(value=value):
                self.assertIs(is_service(value), False)
                self.raises(BadService, value, packets_of, value, 3, ())
                self.raises(BadService, value, leaves_of, value, 3, ())
                self.raises(BadService, value, led_on, value, 3, (), ())
                self.raises(BadService, value, fits, value, 3, ())
                self.raises(BadService, value, scripts_many, value, 3, 1)

    def test_sizes(self):
        for service in ALL_SERVICES:
            for size in (0, 1, 399, 400):
                self.assertEqual(leaves_of(service, size, ()), ())

    def test_what_is_no_size(self):
        for value in BAD_SIZES:
            with self.subTest(value=value):
                self.all_raise(BadSize, value, QUEUE, value, ())
                self.raises(BadSize, value, scripts_many, ANY, value, 1)


class SequenceTest(ScriptChecks):
    def test_errors_come_in_the_order_of_the_parameters(self):
        bad = ("queue", 9)
        for function, rest in ((packets_of, ()), (leaves_of, ()), (fits, ()), (led_on, (None,))):
            self.raises(BadService, bad, function, bad, 500, None, *rest)
            self.raises(BadService, bad, function, bad, 500, (), *rest)
            self.raises(BadSize, 500, function, QUEUE, 500, None, *rest)
            self.raises(BadSize, True, function, QUEUE, True, (7,), *rest)
            self.raises(BadScript, None, function, QUEUE, 3, None, *rest)
            self.raises(BadScript, 1, function, QUEUE, 3, (0, 7, 8), *rest)

    def test_too_many_is_behind_bad_script_and_ahead_of_bad_slot(self):
        self.raises(BadScript, 999, led_on, QUEUE, 3, (0,) * 999 + (3,), None)
        self.raises(BadScript, None, led_on, QUEUE, 3, (0,) * 1001, None)
        self.raises(BadScript, 999, fits, QUEUE, 3, (0,) * 999 + (3,))
        self.raises(TooMany, 1000, led_on, QUEUE, 3, (0,) * 1000, None)

    def test_errors_of_scripts_many(self):
        self.raises(BadService, None, scripts_many, None, None, None)
        self.raises(BadService, None, scripts_many, None, 21, 41)
        self.raises(BadSize, 401, scripts_many, QUEUE, 401, 41)
        self.raises(BadSize, None, scripts_many, QUEUE, None, None)
        self.raises(BadNumber, 41, scripts_many, QUEUE, 21, 41)
        self.raises(BadNumber, 41, scripts_many, ANY, 7, 41)
        self.raises(TooGreat, 21, scripts_many, QUEUE, 21, 40)

    def test_arguments_by_name(self):
        script = (2, 2)
        self.assertEqual(packets_of(script=script, size=3, service=QUEUE), packets_of(QUEUE, 3, script))
        self.assertEqual(leaves_of(script=script, size=3, service=QUEUE), leaves_of(QUEUE, 3, script))
        self.assertEqual(fits(script=script, size=3, service=QUEUE), 2)
        self.assertEqual(led_on(slot=1, script=script, size=3, service=QUEUE), (2, 2, 1))
        self.assertEqual(waiting(counts=(2,)), (1,))
        self.assertEqual(scripts_many(slots=1, size=1, service=ANY), 5)


class ScriptTest(ScriptChecks):
    def test_what_is_no_tuple(self):
        for value in NO_TUPLES:
            for service in ALL_SERVICES:
                self.all_raise(BadScript, None, service, 3, value)

    def test_thousand_slots_and_one_more(self):
        for service in ALL_SERVICES:
            nothing = NOTHING[service[0]]
            some = 1 if service[0] == "queue" else (0,)
            script = (nothing,) * 999 + (some,)
            self.assertEqual(packets_of(service, 3, script), ((999, 0),))
            self.assertEqual(leaves_of(service, 3, script), ((999, 0),))
            self.raises(TooMany, 1000, led_on, service, 3, script, some)
            self.raises(TooMany, 1000, fits, service, 3, script)
            self.assertEqual(led_on(service, 3, script[1:], some), script[1:] + (some,))
            self.assertIn(fits(service, 3, script[1:]), (service[1], (0, 1, 2, 3)))
            self.all_raise(BadScript, None, service, 3, script + (nothing,))
            self.all_raise(BadScript, None, service, 3, (None,) * 1001)
            self.all_raise(BadScript, 0, service, 3, (None,) * 1000)

    def test_slots_without_packets(self):
        for service in ALL_SERVICES:
            nothing = NOTHING[service[0]]
            for size in (0, 1, 400):
                self.assertEqual(packets_of(service, size, (nothing,) * 5), ())
                self.assertEqual(led_on(service, size, (), nothing), (nothing,))

    def test_full_slots_at_size_0(self):
        for most in (1, 2, 3, 4):
            self.assertEqual(packets_of(("queue", most), 0, (1, 1)), ((0, 0), (1, 0)))
            self.assertEqual(fits(("queue", most), 0, (1,)), 1)
            self.assertEqual(fits(("order", most), 0, ((0,),)), (0,))
            self.assertEqual(fits(("any", most), 0, ((0,),)), (0,))
            self.all_raise(BadScript, 0, ("queue", most), 0, (2,))
            self.all_raise(BadScript, 0, ("order", most), 0, ((0, 0),))
            self.all_raise(BadScript, 0, ("any", most), 0, ((0, 0),))
            self.all_raise(BadScript, 1, ("any", most), 0, ((0,), (1,)))

    def test_at_size_400(self):
        for most in (1, 2, 3, 4):
            self.assertEqual(packets_of(("order", most), 400, ((400,), ())), ((0, 400),))
            self.assertEqual(fits(("order", most), 400, ((400,),)), (400,))
            self.assertEqual(fits(("order", most), 400, ((400,), ())), (399, 400))
            self.assertEqual(fits(("any", most), 400, ((400,),)), tuple(range(399)) + (400,))
            self.all_raise(BadScript, 0, ("order", most), 400, ((401,),))
            self.all_raise(BadScript, 0, ("any", most), 400, ((401,),))

    def test_a_queue_grows_until_it_is_full(self):
        for most in (2, 3, 4):
            for size in (0, 1, 2, 5, 399, 400):
                script = ()
                while fits(("queue", most), size, script) == most:
                    script = led_on(("queue", most), size, script, most)
                last = fits(("queue", most), size, script)
                self.assertEqual(last, size + 1 - (most - 1) * len(script))
                self.all_raise(BadScript, len(script), ("queue", most), size, script + (last + 1,))
                full = led_on(("queue", most), size, script, last)
                self.assertEqual(packets_of(("queue", most), size, full)[-1], (len(script), size))
                self.assertEqual(fits(("queue", most), size, full), 1)

    def test_slots_that_cannot_stand(self):
        values = odd_values() + [-1, 5, 10 ** 39, (5,), (-1,), (0, 0), (0, True), (False,), (0, 1, 2, 3, 4), [0], [],
                                 (0, None), (0, "1"), ("0",), (0, [1]), ((0,),), (0, 10 ** 39), (10 ** 39,), b"0",
                                 (0, (1,)), nested(55, list), (nested(54, tuple),), Device("stage 0 1"), 1.0]
        for service in ALL_SERVICES:
            nothing = NOTHING[service[0]]
            for value in values:
                with self.subTest(service=service, value=value):
                    self.assertFalse(is_script(service, 3, (value,)))
                    for at in (0, 3, 6):
                        script = (nothing,) * at + (value,) + (nothing,) * (6 - at)
                        self.all_raise(BadScript, at, service, 3, script)
                        self.raises(BadSlot, value, led_on, service, 3, (nothing,) * at, value)

    def test_counts_and_tuples_are_not_taken_for_each_other(self):
        self.all_raise(BadScript, 0, QUEUE, 3, ((),))
        self.all_raise(BadScript, 1, QUEUE, 3, (1, (0,)))
        for service in (ORDER, ANY):
            self.all_raise(BadScript, 0, service, 3, (0,))
            self.all_raise(BadScript, 1, service, 3, ((0,), 1))

    def test_more_packets_at_a_slot_than_can_come(self):
        for most in (1, 2, 3, 4):
            self.all_raise(BadScript, 0, ("queue", most), 9, (most + 1,))
            for word in ("order", "any"):
                self.all_raise(BadScript, 0, (word, most), 9, (tuple(range(most + 1)),))
                self.assertEqual(len(packets_of((word, most), 9, (tuple(range(most)),))), most)

    def test_the_first_slot_that_cannot_stand_is_told(self):
        self.all_raise(BadScript, 2, QUEUE, 2, (2, 2, 2, None))
        self.all_raise(BadScript, 1, ORDER, 4, ((3,), (2,), (0,)))
        self.all_raise(BadScript, 1, ORDER, 4, ((3,), (1,), (4,)))
        self.all_raise(BadScript, 0, ORDER, 4, ((3, 2), (1,)))
        self.all_raise(BadScript, 2, ANY, 4, ((2, 4), (0,), (0,)))
        self.all_raise(BadScript, 4, ANY, 4, ((4, 2), (), (), (3, 2), (0,)))

    def test_order_within_a_slot(self):
        self.assertEqual(packets_of(ORDER, 4, ((1, 3),)), ((0, 1), (0, 3)))
        self.all_raise(BadScript, 0, ORDER, 4, ((3, 1),))
        self.assertEqual(packets_of(ANY, 4, ((3, 1),)), ((0, 3), (0, 1)))
        self.assertEqual(leaves_of(ANY, 4, ((3, 1), (1,))), ((1, 1), (2, 2), (3, 0)))

    def test_lists_that_are_passed_do_not_change(self):
        script = [[0], [1]]
        self.raises(BadScript, None, packets_of, ANY, 3, script)
        slot = [0, 1]
        self.raises(BadSlot, slot, led_on, ANY, 3, (), slot)
        self.assertEqual([script, slot], [[[0], [1]], [0, 1]])


class PlainTest(ScriptChecks):
    """The package beside a plain going slot by slot."""

    def check(self, service, size, script):
        packets = plain_packets(service, size, script)
        self.assertEqual(packets_of(service, size, script), tuple(packets))
        leaves = sorted((slot + delay, number) for number, (slot, delay) in enumerate(packets))
        self.assertEqual(leaves_of(service, size, script), tuple(leaves))
        self.assertEqual(leaves_of(service, size, script), leaves_of(service, size, tuple(list(script))))

    def check_next(self, service, size, script):
        stand = [what for what in all_slots(service, size) if is_script(service, size, script + (what,))]
        if service[0] == "queue":
            self.assertEqual(fits(service, size, script), max(stand))
        else:
            self.assertEqual(fits(service, size, script), tuple(x for x in range(size + 1) if (x,) in stand))
        for what in all_slots(service, size):
            if what in stand:
                self.assertEqual(led_on(service, size, script, what), script + (what,))
            else:
                self.raises(BadSlot, what, led_on, service, size, script, what)
                self.all_raise(BadScript, len(script), service, size, script + (what,))

    def test_all_short_scripts(self):
        for service in ALL_SERVICES:
            word, most = service
            for size, slots in ((0, 4), (1, 3), (2, 3 if most < 3 else 2), (3, 2 if most < 4 else 1)):
                for many in range(slots + 1):
                    for script in all_scripts(service, size, many):
                        self.check(service, size, script)

    def test_all_that_can_stand_next(self):
        for service in ALL_SERVICES:
            word, most = service
            for size, slots in ((0, 3), (1, 2), (2, 2 if most < 3 else 1), (3, 1)):
                for many in range(slots + 1):
                    for script in all_scripts(service, size, many):
                        self.check_next(service, size, script)

    def test_made_scripts(self):
        choice = random.Random(5)
        for service in ALL_SERVICES:
            for size in (0, 1, 2, 7, 23, 400):
                script = made_script(choice, service, size, 60)
                self.assertTrue(is_script(service, size, script))
                self.check(service, size, script)
                stand = [what for what in range(service[1] + 1) if is_script(service, size, script + (what,))] \
                    if service[0] == "queue" else \
                    [x for x in range(size + 1) if is_script(service, size, script + ((x,),))]
                self.assertEqual(fits(service, size, script), stand[-1] if service[0] == "queue" else tuple(stand))

    def test_long_scripts(self):
        choice = random.Random(6)
        for service in ALL_SERVICES:
            script = made_script(choice, service, 9, 1000)
            packets = packets_of(service, 9, script)
            self.assertEqual([slot for slot, _ in packets], sorted(slot for slot, _ in packets))
            leaves = [slot for slot, _ in leaves_of(service, 9, script)]
            self.assertEqual(len(set(leaves)), len(packets))
            self.assertEqual(leaves, sorted(slot + delay for slot, delay in packets))


class ForAllTest(ScriptChecks):
    """The paragraph FOR ALL services, sizes and scripts."""

    def scripts(self):
        choice = random.Random(7)
        for service in ALL_SERVICES:
            for size in (0, 1, 3, 8, 40):
                for slots in (1, 2, 5, 30):
                    yield service, size, made_script(choice, service, size, slots)

    def test_counts_of_order_are_a_script_of_a_queue(self):
        for (word, most), size, script in self.scripts():
            if word == "order":
                counts = tuple(len(slot) for slot in script)
                ahead = packets_of(("queue", most), size, counts)
                packets = packets_of((word, most), size, script)
                self.assertEqual([slot for slot, _ in ahead], [slot for slot, _ in packets])
                for (_, one), (_, other) in zip(ahead, packets):
                    self.assertLessEqual(one, other)

    def test_order_is_a_script_of_any(self):
        for (word, most), size, script in self.scripts():
            if word == "order":
                self.assertEqual(packets_of(("any", most), size, script), packets_of((word, most), size, script))

    def test_a_queue_with_its_delays_is_a_script_of_order(self):
        for (word, most), size, script in self.scripts():
            if word == "queue":
                slots = [[] for _ in script]
                for slot, delay in packets_of((word, most), size, script):
                    slots[slot].append(delay)
                told = tuple(tuple(slot) for slot in slots)
                self.assertEqual(packets_of(("order", most), size, told), packets_of((word, most), size, script))

    def test_greater_sizes_and_more_packets_a_slot(self):
        for (word, most), size, script in self.scripts():
            packets = packets_of((word, most), size, script)
            for more in (most, 4):
                for greater in (size, size + 1, 400):
                    self.assertEqual(packets_of((word, more), greater, script), packets)

    def test_waiting_is_what_a_queue_has_left(self):
        for (word, most), size, script in self.scripts():
            if word == "queue":
                packets = packets_of((word, most), size, script)
                for slot, left in enumerate(waiting(script)):
                    self.assertEqual(left, len([t for t, x in packets if t <= slot < t + x]))


class WaitingTest(ScriptChecks):
    def test_counts(self):
        self.assertEqual(waiting(()), ())
        self.assertEqual(waiting((0, 0)), (0, 0))
        self.assertEqual(waiting((1, 1)), (0, 0))
        self.assertEqual(waiting((2, 0, 3, 1, 0, 0, 0, 0)), (1, 0, 2, 2, 1, 0, 0, 0))
        self.assertEqual(waiting((1000,)), (999,))
        self.assertEqual(waiting((0, 5, 0, 0)), (0, 4, 3, 2))

    def test_great_counts(self):
        self.assertEqual(waiting((1000,) * 1000), tuple(range(999, 999001, 999)))
        self.assertEqual(waiting((1000,) + (0,) * 999), tuple(range(999, -1, -1)))
        self.assertEqual(waiting((0,) * 1000), (0,) * 1000)

    def test_beside_a_plain_queue(self):
        choice = random.Random(8)
        for most in (1, 2, 3, 9, 1000):
            counts = tuple(choice.randint(0, most) for _ in range(200))
            line, told = [], []
            for slot, count in enumerate(counts):
                line += [slot] * count
                line = line[1:]
                told.append(len(line))
            self.assertEqual(waiting(counts), tuple(told))

    def test_what_is_no_counts(self):
        values = odd_values() + [0, (-1,), (1001,), (0, True), (0, None), (0, "1"), [0], (0, (1,)), (0, [1]), "12",
                                 (0,) * 1001, (10 ** 39,), {0: 1}, (0, {}), (0, nested(55, tuple)), (1, 2, False)]
        for value in values:
            with self.subTest(value=value):
                self.raises(BadCounts, value, waiting, value)


class ScriptsManyTest(ScriptChecks):
    def test_beside_all_scripts(self):
        for service in ALL_SERVICES:
            for size, slots in ((0, 4), (1, 3), (2, 2), (3, 2 if service[1] < 3 else 1)):
                for many in range(slots + 1):
                    with self.subTest(service=service, size=size, many=many):
                        self.assertEqual(scripts_many(service, size, many), len(all_scripts(service, size, many)))

    def test_beside_a_plain_count(self):
        for service in ALL_SERVICES:
            for size in (0, 1, 2, 4) if service[0] == "any" else (0, 1, 3, 8):
                for slots in (0, 1, 5, 9, 40):
                    with self.subTest(service=service, size=size, slots=slots):
                        self.assertEqual(scripts_many(service, size, slots), count_scripts(service, size, slots))

    def test_at_the_limits(self):
        for service in ALL_SERVICES:
            size = 6 if service[0] == "any" else 20
            self.assertEqual(scripts_many(service, size, 0), 1)
            self.assertEqual(scripts_many(service, size, 1), len(
                range(service[1] + 1) if service[0] == "queue" else all_scripts_of_one_slot(service, size)))
            self.assertEqual(scripts_many(service, size, 40), count_scripts(service, size, 40))
            for above in (size + 1, 400):
                self.raises(TooGreat, above, scripts_many, service, above, 0)
                self.raises(TooGreat, above, scripts_many, service, above, 40)

    def test_what_is_told_by_hand(self):
        self.assertEqual(scripts_many(("queue", 1), 20, 40), 2 ** 40)
        self.assertEqual(scripts_many(("queue", 4), 0, 40), 2 ** 40)
        self.assertEqual(scripts_many(("any", 4), 0, 40), 2 ** 40)
        self.assertEqual([scripts_many(("any", 4), 6, 1), scripts_many(("order", 4), 6, 1)], [1100, 99])
        self.assertEqual([scripts_many(("queue", 3), 1, 1), scripts_many(("queue", 3), 2, 1)], [3, 4])

    def test_what_is_no_number_of_slots(self):
        for value in odd_values() + [-1, 41, 10 ** 39, (0,), ()]:
            with self.subTest(value=value):
                self.raises(BadNumber, value, scripts_many, QUEUE, 3, value)
                self.raises(BadNumber, value, scripts_many, ANY, 3, value)


def all_scripts_of_one_slot(service, size):
    """All slots that can stand first; those of "order" are the ascending ones of "any"."""
    slots = [what for what in all_slots(("any", service[1]), size) if len(set(what)) == len(what)]
    return [what for what in slots if service[0] == "any" or list(what) == sorted(what)]


if __name__ == "__main__":
    unittest.main()

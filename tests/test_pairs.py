import random
import unittest
from itertools import product

from plain import ALL_SERVICES, Checks, nested, odd_values, pairs_by_scripts, pairs_by_waits, plain_can_be
from queueloops.errors import BadPair, BadService, BadSize, NoPair
from queueloops.pairs import can_be, pair_script
from queueloops.services import packets_of

TWO = ("queue", 2)
BAD_SERVICES = odd_values() + [("queue", 0), ("queue", 5), ("queue", True), ["queue", 2], ("line", 2), ("any",), 2]
BAD_SIZES = odd_values() + [-1, 401, 10 ** 39, (0,), 0.0]
BAD_PAIRS = odd_values() + [
    0, (), (0,), (0, 0), (0, 0, 1, 0), [0, 0, 1], (-1, 0, 1), (0, -1, 1), (0, 0, -1), (6, 0, 9), (0, 6, 1), (0, 0, 401),
    (True, 0, 1), (0, False, 1), (0, 0, True), (None, 0, 1), (0, None, 1), (0, 0, None), ("0", 0, 1), (0, 0, "1"),
    ((0,), 0, 1), (0, (0,), 1), (0, 0, (1,)), (0, 0, [1]), ((0, 0, 1),), {0: 0, 1: 0, 2: 1}, "001", (0.0, 0, 1),
    (0, 0, 10 ** 39), (10 ** 39, 0, 1), (0, 0, nested(55, tuple)),
]


def stands(service, size, script):
    """The packets of a script of any number of slots, each as (slot, delay); None if it is no script."""
    word, most = service
    packets, waits, last, taken = [], 0, -1, set()
    for slot, who in enumerate(script):
        if word == "queue":
            if type(who) is not int or not 0 <= who <= most:
                return None
            delays = list(range(waits, waits + who))
            waits = max(waits + who - 1, 0)
        else:
            if type(who) is not tuple or len(who) > most or not all(type(delay) is int for delay in who):
                return None
            delays = list(who)
        for delay in delays:
            if not 0 <= delay <= size or slot + delay in taken or word != "any" and slot + delay <= last:
                return None
            last = slot + delay
            taken.add(last)
            packets.append((slot, delay))
    return packets


class PairChecks(Checks):
    def check_script(self, service, size, pair, slots):
        """The told script has the pair, and just so many slots."""
        told = pair_script(service, size, pair)
        self.assertEqual([type(part) for part in (told,) + told], [tuple, tuple, int, int])
        script, one, other = told
        packets = stands(service, size, script)
        self.assertIsNotNone(packets, (service, size, pair, script))
        self.assertLess(one, other)
        (slot, ahead), (later, behind) = packets[one], packets[other]
        self.assertEqual((ahead, behind, later - slot), pair)
        self.assertEqual(len(script), slots, (service, size, pair, script))


class ErrorsTest(PairChecks):
    def test_bad_services(self):
        for value in BAD_SERVICES:
            for function in (can_be, pair_script):
                self.raises(BadService, value, function, value, 5, (0, 0, 1))
                self.raises(BadService, value, function, value, None, None)

    def test_bad_sizes(self):
        for value in BAD_SIZES:
            for service in ALL_SERVICES:
                for function in (can_be, pair_script):
                    self.raises(BadSize, value, function, service, value, (0, 0, 1))
                    self.raises(BadSize, value, function, service, value, None)

    def test_bad_pairs(self):
        for value in BAD_PAIRS:
            for service in ALL_SERVICES:
                for function in (can_be, pair_script):
                    self.raises(BadPair, value, function, service, 5, value)

    def test_limits_of_pairs(self):
        for service in ALL_SERVICES:
            for size in (0, 1, 7, 400):
                for pair in ((0, 0, 0), (size, 0, 0), (0, size, 0), (size, size, 0), (0, 0, 400), (size, size, 400)):
                    self.assertIn(can_be(service, size, pair), (True, False))
                for pair in ((size + 1, 0, 0), (0, size + 1, 0), (0, 0, 401), (size + 1, size + 1, 401)):
                    self.raises(BadPair, pair, can_be, service, size, pair)
                    self.raises(BadPair, pair, pair_script, service, size, pair)

    def test_no_pair_is_behind_all_else(self):
        self.raises(NoPair, (2, 1, 0), pair_script, TWO, 5, (2, 1, 0))
        self.raises(BadPair, (2, 1, 0), pair_script, TWO, 1, (2, 1, 0))
        self.raises(BadSize, 401, pair_script, TWO, 401, (2, 1, 0))
        self.raises(BadService, ("queue", 5), pair_script, ("queue", 5), 5, (2, 1, 0))

    def test_arguments_by_name(self):
        self.assertIs(can_be(pair=(2, 4, 1), size=5, service=TWO), True)
        self.assertEqual(pair_script(pair=(2, 4, 1), size=5, service=TWO), ((2, 2, 2, 2), 4, 7))


class PairTest(PairChecks):
    def test_beside_all_scripts_of_few_slots(self):
        slots = {"queue": (5, 4, 4, 3), "order": (4, 3, 3, 2), "any": (4, 3, 2, 2)}
        for word, most in ALL_SERVICES:
            for size in range(4 if word == "queue" else 3):
                self.check_beside_scripts((word, most), size, slots[word][most - 1])

    def check_beside_scripts(self, service, size, slots):
        known = pairs_by_scripts(service, size, slots)
        for pair in product(range(size + 1), range(size + 1), range(slots + 1)):
            if pair in known:
                self.assertIs(can_be(service, size, pair), True, (service, size, pair))
                self.check_script(service, size, pair, known[pair])
            elif can_be(service, size, pair):
                self.assertGreater(len(pair_script(service, size, pair)[0]), slots, (service, size, pair))
            else:
                self.raises(NoPair, pair, pair_script, service, size, pair)

    def test_queues_beside_all_that_can_wait(self):
        for most in (1, 2, 3, 4):
            for size, later in ((0, 3), (1, 4), (2, 5), (3, 6), (6, 9), (11, 8), (14, 3)):
                known = pairs_by_waits(most, size, later)
                for pair in product(range(size + 1), range(size + 1), range(later + 1)):
                    self.assertIs(can_be(("queue", most), size, pair), pair in known, (most, size, pair))
                    if pair in known:
                        self.check_script(("queue", most), size, pair, known[pair])
                    else:
                        self.raises(NoPair, pair, pair_script, ("queue", most), size, pair)

    def test_the_ways_of_knowing_agree(self):
        for most in (1, 2, 3, 4):
            for size in range(3):
                scripts = pairs_by_scripts(("queue", most), size, 4)
                waits = pairs_by_waits(most, size, 3)
                self.assertEqual(scripts, {pair: slots for pair, slots in waits.items() if slots <= 4})

    def test_order_and_any_by_the_leaves(self):
        for word in ("order", "any"):
            for most in (1, 2, 3, 4):
                for size in (0, 1, 5, 9):
                    for pair in product(range(size + 1), range(size + 1), range(size + 3)):
                        can = plain_can_be((word, most), size, pair)
                        self.assertIs(can_be((word, most), size, pair), can)
                        if can:
                            self.check_script((word, most), size, pair, pair[2] + 1)
                        else:
                            self.raises(NoPair, pair, pair_script, (word, most), size, pair)

    def test_pairs_of_one_slot(self):
        for most in (2, 3, 4):
            for word in ("order", "any"):
                self.assertEqual(pair_script((word, most), 9, (2, 7, 0)), (((2, 7),), 0, 1))
            self.assertEqual(pair_script(("queue", most), 9, (0, 1, 0)), ((2,), 0, 1))
        self.assertEqual(pair_script(("any", 2), 9, (7, 2, 0)), (((7, 2),), 0, 1))
        for word in ("queue", "order", "any"):
            self.raises(NoPair, (0, 1, 0), pair_script, (word, 1), 9, (0, 1, 0))
            for most in (1, 2, 3, 4):
                self.raises(NoPair, (3, 3, 0), pair_script, (word, most), 9, (3, 3, 0))
        self.raises(NoPair, (0, 3, 0), pair_script, ("queue", 3), 9, (0, 3, 0))
        self.assertEqual(pair_script(("queue", 4), 9, (0, 3, 0)), ((4,), 0, 3))

    def test_pairs_that_are_far_apart(self):
        for service, slots in ((("queue", 2), 800), (("queue", 3), 600), (("queue", 4), 534), (("order", 1), 401),
                               (("any", 4), 401)):
            self.check_script(service, 400, (400, 400, 400), slots)
        for service in ALL_SERVICES:
            self.check_script(service, 400, (0, 0, 400), 401)
        self.check_script(("queue", 2), 400, (0, 400, 399), 400)
        self.check_script(("queue", 2), 400, (0, 400, 400), 401)
        self.raises(NoPair, (0, 400, 398), pair_script, ("queue", 2), 400, (0, 400, 398))
        self.check_script(("queue", 4), 400, (0, 399, 132), 133)
        self.raises(NoPair, (0, 400, 132), pair_script, ("queue", 4), 400, (0, 400, 132))
        self.check_script(("queue", 3), 400, (400, 1, 400), 600)
        self.raises(NoPair, (400, 0, 400), pair_script, ("queue", 3), 400, (400, 0, 400))

    def test_made_pairs_of_great_sizes(self):
        choice = random.Random(21)
        many = 0
        for _ in range(150):
            size, service = choice.randint(30, 400), choice.choice(ALL_SERVICES)
            pair = (choice.randint(0, size), choice.randint(0, size), choice.randint(0, 400))
            if not can_be(service, size, pair):
                self.raises(NoPair, pair, pair_script, service, size, pair)
                continue
            script, one, other = pair_script(service, size, pair)
            self.check_script(service, size, pair, len(script))
            self.assertEqual(packets_of(service, size, script), tuple(stands(service, size, script)))
            many += 1
        self.assertGreater(many, 60)

    def test_queue_of_one_packet_a_slot(self):
        for later in range(1, 9):
            for ahead, behind in product(range(3), range(3)):
                self.assertIs(can_be(("queue", 1), 2, (ahead, behind, later)), ahead == behind == 0)
        self.assertEqual([len(part) if type(part) is tuple else part for part in pair_script(("queue", 1), 0, (0, 0, 3))],
                         [4, 0, len([1 for who in pair_script(("queue", 1), 0, (0, 0, 3))[0][:3] if who])])

    def test_the_size_hangs_on_the_delays_alone(self):
        for service in ALL_SERVICES:
            for pair in product(range(4), range(4), range(5)):
                told = [can_be(service, size, pair) for size in range(max(pair[:2]), 9)]
                self.assertEqual(len(set(told)), 1)

    def test_more_packets_a_slot_and_wider_services(self):
        for pair in product(range(6), range(6), range(7)):
            told = {service: can_be(service, 5, pair) for service in ALL_SERVICES}
            for most in (1, 2, 3, 4):
                self.assertLessEqual(told["queue", most], told["order", most])
                self.assertLessEqual(told["order", most], told["any", most])
                for word in ("queue", "order", "any"):
                    self.assertLessEqual(told[word, most], told[word, min(most + 1, 4)])

    def test_calls_are_alike(self):
        for service in ALL_SERVICES:
            self.assertEqual(pair_script(service, 5, (0, 0, 3)), pair_script(tuple(list(service)), 5, (0, 0, 3)))


if __name__ == "__main__":
    unittest.main()

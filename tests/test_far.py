import random
import unittest
from itertools import product

from plain import Checks, nested, odd_values
from queueloops.errors import BadArrivals, BadNumber, BadPlace, BadSlot, TooFew
from queueloops.far import (came_by, delay_at, first_above, lap_goes, leaves_at, left_by, most_delay, packet_at,
                            waits_at)
from queueloops.services import leaves_of, packets_of, waiting

FAR = 10 ** 18
BAD_COUNTS = odd_values() + [
    0, 1, [1], (5,), (-1,), (0, True), (False, 0), (1, None), (1, "1"), (1, (1,)), (1.0,), {0: 1}, "11", (10 ** 39,),
    (1,) * 1001, (0, nested(50, list)), ((1, 2),),
]
BAD_NUMBERS = odd_values() + [-1, FAR + 1, 10 ** 39, (0,), [0], 0.0]


def plain_queue(first, again, slots):
    """(waits, came, left, leaver, delays) for each slot: what is ahead of it, who leaves, delays of those that come."""
    queue, came, left, told, delays = [], 0, 0, [], {}
    for slot in range(slots):
        waits, ahead = len(queue), (came, left)
        count = first[slot] if slot < len(first) else again[(slot - len(first)) % len(again)]
        new = list(range(came, came + count))
        for number in new:
            delays[number] = slot
        queue, came = queue + new, came + count
        leaver = queue.pop(0) if queue else None
        if leaver is not None:
            delays[leaver] = slot - delays[leaver]
            left += 1
        told.append((waits,) + ahead + (leaver, new))
    # Who has not left yet leaves at one slot each, one behind the other.
    for at, number in enumerate(queue):
        delays[number] = slots + at - delays[number]
    return [row[:4] + ([delays[number] for number in row[4]],) for row in told]


def small_arrivals():
    """All arrivals with few counts, and some with more."""
    for many, laps in product(range(3), (1, 2)):
        yield from product(product(range(5), repeat=many), product(range(4), repeat=laps))


def made_arrivals(seed, many):
    choice = random.Random(seed)
    for _ in range(many):
        most = choice.choice((1, 2, 3, 4, 4))
        first = tuple(choice.randint(0, choice.choice((1, 4))) for _ in range(choice.randint(0, 9)))
        yield first, tuple(choice.randint(0, choice.choice((1, 1, most))) for _ in range(choice.randint(1, 9)))


# As many packets as slots in a lap, fewer, more, none; first empty, with few and with 1,000 counts.
LONG = [
    ((4,) * 1000, (0,) * 1000), ((0,) * 1000, (4,) * 1000), ((1,) * 1000, (1,) * 1000), ((4,) * 1000, (1,) * 999 + (0,)),
    ((), tuple(range(5)) * 200), ((2, 0) * 500, (0, 0, 3) * 333 + (1,)), ((4,) * 1000, (0,)), ((3,) * 1000, (2,)),
    ((0, 4, 1), (0,) * 999 + (4,)), ((), (4,) * 250 + (0,) * 750), ((1,), (0,) * 750 + (4,) * 250),
    ((), (4,) * 250 + (0,) * 749 + (1,)),
]


class ErrorsTest(Checks):
    SLOTS = (came_by, left_by, waits_at, leaves_at)

    def all_calls(self):
        """(function, what follows the arrivals), also with more that is wrong."""
        calls = [(function, (slot,)) for function in self.SLOTS for slot in (0, -1, None)]
        calls += [(delay_at, (0, 0)), (delay_at, (None, None)), (packet_at, (0,)), (packet_at, (-1,))]
        return calls + [(lap_goes, ()), (most_delay, ()), (first_above, (0,)), (first_above, (None,))]

    def test_bad_arrivals(self):
        for function, rest in self.all_calls():
            for value in BAD_COUNTS:
                self.raises(BadArrivals, (value, (1,)), function, value, (1,), *rest)
                self.raises(BadArrivals, ((), value), function, (), value, *rest)
                self.raises(BadArrivals, ((1, 0), value), function, (1, 0), value, *rest)
            self.raises(BadArrivals, ((), ()), function, (), (), *rest)
            self.raises(BadArrivals, ((1,), ()), function, (1,), (), *rest)
            self.raises(BadArrivals, (None, None), function, None, None, *rest)

    def test_arrivals_that_can_be(self):
        for first, again in (((), (0,)), ((0,), (0,)), ((4,) * 1000, (4,) * 1000), ((0,) * 1000, (0,) * 1000)):
            for function, rest in self.all_calls():
                if None not in rest and -1 not in rest and sum(first) > 0:
                    function(first, again, *rest)
            self.assertEqual(waits_at(first, again, 0), 0)

    def test_bad_slots(self):
        for value in BAD_NUMBERS:
            for first, again in (((), (1,)), ((2, 3), (0, 1)), ((), (0,))):
                for function in self.SLOTS:
                    self.raises(BadSlot, value, function, first, again, value)
                for place in (0, -1, None):
                    self.raises(BadSlot, value, delay_at, first, again, value, place)

    def test_bad_places(self):
        for value in odd_values() + [-1, 4, 10 ** 39, (0,), [0], 0.0]:
            for slot in (0, 5, FAR):
                self.raises(BadPlace, value, delay_at, (), (4,), slot, value)
        for slot, count in enumerate((2, 0, 3, 1, 4, 1, 4)):
            for place in range(count):
                delay_at((2, 0, 3), (1, 4), slot, place)
            for place in (count, count + 1, FAR):
                self.raises(BadPlace, place, delay_at, (2, 0, 3), (1, 4), slot, place)

    def test_bad_numbers(self):
        for value in BAD_NUMBERS:
            for first, again in (((), (1,)), ((2, 3), (0, 1)), ((), (0,)), ((3,), (0,))):
                self.raises(BadNumber, value, packet_at, first, again, value)
                self.raises(BadNumber, value, first_above, first, again, value)

    def test_too_few(self):
        for first, again in (((), (0,)), ((0, 0), (0, 0)), ((3,), (0,)), ((1, 0, 4), (0, 0, 0)), ((4,) * 1000, (0,))):
            many = sum(first)
            for number in (many, many + 1, FAR):
                self.raises(TooFew, many, packet_at, first, again, number)
            for number in range(min(many, 5)):
                self.assertEqual(len(packet_at(first, again, number)), 3)
            self.raises(BadNumber, FAR + 1, packet_at, first, again, FAR + 1)

    def test_arguments_by_name(self):
        told = {"again": (0, 1, 0), "first": (3, 2)}
        self.assertEqual(came_by(slot=6, **told), 6)
        self.assertEqual(left_by(slot=6, **told), 6)
        self.assertEqual(waits_at(slot=2, **told), 3)
        self.assertEqual(delay_at(place=1, slot=1, **told), 3)
        self.assertEqual(packet_at(number=5, **told), (3, 0, 2))
        self.assertEqual(leaves_at(slot=4, **told), 4)
        self.assertEqual(lap_goes(**told), ("round", 2, 0))
        self.assertEqual(most_delay(**told), 3)
        self.assertEqual(first_above(size=2, **told), (1, 1))


class NearTest(Checks):
    """Beside a plain queue, slot by slot."""

    def check(self, first, again, slots):
        told = plain_queue(first, again, slots)
        number = 0
        for slot, (waits, came, left, leaver, delays) in enumerate(told):
            self.assertEqual([waits_at(first, again, slot), came_by(first, again, slot), left_by(first, again, slot)],
                             [waits, came, left])
            self.assertEqual(leaves_at(first, again, slot), leaver)
            for place, delay in enumerate(delays):
                self.assertEqual(delay_at(first, again, slot, place), delay)
                self.assertEqual(packet_at(first, again, number), (slot, place, delay))
                number += 1
        return told

    def check_delays(self, first, again, told):
        """What is told of delays; the first slots of so many laps that no delay is great for the first time behind."""
        delays = [(delay, slot, place) for slot, row in enumerate(told) for place, delay in enumerate(row[4])]
        most = max([delay for delay, _, _ in delays], default=-1)
        if sum(again) > len(again):
            self.assertIsNone(most_delay(first, again))
            sizes = range(max(most - 12, 1))
        else:
            self.assertEqual(most_delay(first, again), most)
            sizes = range(most + 3)
        for size in sizes:
            above = [(slot, place) for delay, slot, place in delays if delay > size]
            if above or sum(again) <= len(again):
                self.assertEqual(first_above(first, again, size), above[0] if above else None)

    def check_laps(self, first, again, told):
        """The least lap of which it can be said, of those that are told."""
        waits = [row[0] for row in told[len(first)::len(again)]]
        word, lap, number = result = lap_goes(first, again)
        self.assertEqual([type(result), type(lap), type(number)], [tuple, int, int])
        more = [behind - ahead for ahead, behind in zip(waits, waits[1:])]
        self.assertLess(lap, len(more) - 2)
        self.assertEqual(word, "grows" if sum(again) > len(again) else "round")
        if word == "grows":
            self.assertEqual(number, sum(again) - len(again))
            self.assertEqual(lap, min(at for at in range(len(more)) if set(more[at:]) == {number}))
        else:
            self.assertEqual(lap, min(at for at in range(len(more)) if set(waits[at:]) == {number}))
        if sum(again) == len(again):
            self.assertEqual(len(set(waits[1:])), 1)

    def test_small_arrivals(self):
        words = set()
        for first, again in small_arrivals():
            told = self.check(first, again, len(first) + 12 * len(again))
            self.check_delays(first, again, told)
            self.check_laps(first, again, told)
            words.add(lap_goes(first, again)[:2])
        self.assertLessEqual({("grows", 0), ("grows", 1), ("round", 0), ("round", 1), ("round", 3)}, words)

    def test_made_arrivals(self):
        signs = set()
        for first, again in made_arrivals(81, 150):
            told = self.check(first, again, len(first) + 45 * len(again))
            self.check_delays(first, again, told)
            self.check_laps(first, again, told)
            signs.add((sum(again) > len(again)) - (sum(again) < len(again)))
        self.assertEqual(signs, {-1, 0, 1})

    def test_long_arrivals(self):
        for first, again in LONG:
            told = plain_queue(first, again, len(first) + 4 * len(again) + 50)
            for slot in list(range(0, len(told), 97)) + [len(first), len(first) + len(again), len(told) - 1]:
                if slot < len(told):
                    waits, came, left, leaver, delays = told[slot]
                    self.assertEqual([waits_at(first, again, slot), came_by(first, again, slot),
                                      left_by(first, again, slot), leaves_at(first, again, slot)],
                                     [waits, came, left, leaver])
                    for place, delay in enumerate(delays):
                        self.assertEqual(delay_at(first, again, slot, place), delay)
                        self.assertEqual(packet_at(first, again, came + place), (slot, place, delay))
            if sum(again) <= len(again):
                delays = [delay for row in told for delay in row[4]]
                self.assertEqual(most_delay(first, again), max(delays, default=-1))

    def test_first_above_of_long_arrivals(self):
        for first, again in LONG:
            told = plain_queue(first, again, len(first) + 3 * len(again) + 50)
            delays = [(delay, slot, place) for slot, row in enumerate(told) for place, delay in enumerate(row[4])]
            most = max(delays, default=(-1, 0, 0))[0]
            for size in {0, 1, 2, 5, most // 2, max(most - 1, 0), max(most, 0), most + 1}:
                above = [(slot, place) for delay, slot, place in delays if delay > size]
                if above or sum(again) <= len(again):
                    self.assertEqual(first_above(first, again, size), above[0] if above else None)

    def test_beside_scripts_of_queues(self):
        """What section 5 tells of a script is told here of the same counts."""
        for first, again in made_arrivals(82, 60):
            counts = (first + again * 20)[:60]
            waits = waiting(counts)
            self.assertEqual([waits_at(first, again, slot + 1) for slot in range(len(counts))], list(waits))
            packets = packets_of(("queue", 4), 400, counts)
            for number, (slot, delay) in enumerate(packets[:100]):
                self.assertEqual(packet_at(first, again, number)[::2], (slot, delay))
            for slot, number in leaves_of(("queue", 4), 400, counts)[:60]:
                if slot < len(counts):
                    self.assertEqual(leaves_at(first, again, slot), number)


class FarTest(Checks):
    """Far slots, by laps: they are told from the first slots, which the plain queue tells."""

    def cases(self):
        yield from made_arrivals(83, 80)
        yield from LONG

    def waits_by_laps(self, first, again, slot):
        """Waits ahead of a far slot, from a near slot of a lap behind which laps go on as they do for ever."""
        laps = 12 if len(again) < 20 else 6
        near = plain_queue(first, again, len(first) + laps * len(again) + len(again))
        part = (slot - len(first)) % len(again)
        ahead, last = (near[len(first) + lap * len(again) + part][0] for lap in (laps - 1, laps))
        lap = (slot - len(first)) // len(again)
        if sum(again) >= len(again):
            # From some early lap on so many more wait at each lap.
            return last + (last - ahead) * (lap - laps)
        # What waited at the beginning is gone at last, and laps are as if nobody had ever waited.
        fresh = plain_queue((), again, 2 * len(again) + part + 1)
        return fresh[len(again) + part][0]

    def test_far_slots(self):
        for first, again in self.cases():
            for slot in (FAR, FAR - 1, FAR - 7, 10 ** 17 + 3, 10 ** 9):
                waits = self.waits_by_laps(first, again, slot)
                self.assertEqual(waits_at(first, again, slot), waits)
                lap, part = divmod(slot - len(first), len(again))
                came = sum(first) + lap * sum(again) + sum(again[:part])
                self.assertEqual([came_by(first, again, slot), left_by(first, again, slot)], [came, came - waits])
                count = again[part]
                self.assertEqual(leaves_at(first, again, slot), came - waits if waits + count else None)
                for place in range(count):
                    self.assertEqual(delay_at(first, again, slot, place), waits + place)
                    if came + place <= FAR:
                        self.assertEqual(packet_at(first, again, came + place), (slot, place, waits + place))

    def test_one_slot_to_the_next(self):
        """The paragraph FOR ALL arrivals."""
        choice = random.Random(84)
        for first, again in self.cases():
            for _ in range(8):
                slot = choice.randint(0, choice.choice((30, 3000, FAR - 1)))
                waits, came = waits_at(first, again, slot), came_by(first, again, slot)
                count = came_by(first, again, slot + 1) - came
                self.assertEqual(waits_at(first, again, slot + 1), max(waits + count - 1, 0))
                self.assertEqual([delay_at(first, again, slot, place) for place in range(count)],
                                 list(range(waits, waits + count)))
                self.raises(BadPlace, count, delay_at, first, again, slot, count)
                left = left_by(first, again, slot + 1) - left_by(first, again, slot)
                self.assertEqual(left, min(1, waits + count))
                self.assertEqual(leaves_at(first, again, slot), left_by(first, again, slot) if left else None)

    def test_packets_leave_when_they_are_told_to(self):
        choice = random.Random(85)
        for first, again in self.cases():
            for _ in range(6):
                number = choice.randint(0, choice.choice((20, 2000, FAR)))
                if sum(again) == 0 and number >= sum(first):
                    continue
                slot, place, delay = packet_at(first, again, number)
                if slot + delay <= FAR:
                    self.assertEqual(came_by(first, again, slot) + place, number)
                    self.assertEqual(delay_at(first, again, slot, place), delay)
                    self.assertEqual(leaves_at(first, again, slot + delay), number)

    def test_packets_that_come_behind_the_last_slot_that_can_be_asked_for(self):
        self.assertEqual(packet_at((), (1,), FAR), (FAR, 0, 0))
        self.assertEqual(packet_at((2,), (1, 0, 0), FAR), (3 * (FAR - 2) + 1, 0, 0))
        self.assertEqual(packet_at((), (0,) * 999 + (1,), FAR), (1000 * FAR + 999, 0, 0))
        self.assertEqual(packet_at((), (4,), FAR), (FAR // 4, 0, FAR // 4 * 3))
        self.raises(BadSlot, 1000 * FAR + 999, waits_at, (), (0,) * 999 + (1,), 1000 * FAR + 999)

    def test_first_above_great_sizes(self):
        for first, again in self.cases():
            for size in (FAR, FAR - 1, 10 ** 15 + 7, 10 ** 6):
                told = first_above(first, again, size)
                if sum(again) <= len(again):
                    self.assertIsNone(told)
                    continue
                slot, place = told
                if slot <= FAR:
                    self.check_first(first, again, size, slot, place)

    def check_first(self, first, again, size, slot, place):
        """This packet is delayed by more; the one ahead of it, and those of a lap ahead of it, are not."""
        self.assertGreater(delay_at(first, again, slot, place), size)
        number = came_by(first, again, slot) + place
        for ahead in range(number - 1, max(number - 4 * len(again) - 8, -1), -max(len(again) // 40, 1)):
            if ahead <= FAR:
                self.assertLessEqual(packet_at(first, again, ahead)[2], size)

    def test_first_above_beside_the_greatest_delay(self):
        for first, again in self.cases():
            most = most_delay(first, again)
            if most is None or most < 1:
                continue
            self.assertIsNone(first_above(first, again, most))
            self.assertIsNone(first_above(first, again, most + 1))
            self.assertIsNone(first_above(first, again, FAR))
            slot, place = first_above(first, again, most - 1)
            self.assertEqual(delay_at(first, again, slot, place), most)
            self.check_first(first, again, most - 1, slot, place)

    def test_laps_that_come_round_late(self):
        for many in (1, 2, 3, 7, 1000):
            # Behind first 3 * many wait, and with each lap one fewer.
            told = lap_goes((4,) * many, (1, 0))
            self.assertEqual(told, ("round", 3 * many, 0))
            waits = [waits_at((4,) * many, (1, 0), many + 2 * lap) for lap in (told[1] - 1, told[1], told[1] + 1)]
            self.assertEqual(waits, [1, 0, 0])
        self.assertEqual(lap_goes((4,) * 1000, (0,)), ("round", 3000, 0))
        self.assertEqual(lap_goes((4,), (0, 1, 1)), ("round", 3, 0))
        self.assertEqual(lap_goes((4,), (0, 0, 3)), ("round", 0, 3))
        self.assertEqual(lap_goes((1,), (0, 0, 3)), ("round", 1, 2))
        self.assertEqual(lap_goes((3,), (0, 0, 3)), ("round", 0, 2))

    def test_no_packets_at_all(self):
        for first, again in (((), (0,)), ((0,) * 1000, (0,) * 1000)):
            for slot in (0, 1, 5, FAR):
                self.assertEqual([came_by(first, again, slot), left_by(first, again, slot),
                                  waits_at(first, again, slot), leaves_at(first, again, slot)], [0, 0, 0, None])
                self.raises(BadPlace, 0, delay_at, first, again, slot, 0)
            self.assertEqual([lap_goes(first, again), most_delay(first, again), first_above(first, again, 0)],
                             [("round", 0, 0), -1, None])
            self.raises(TooFew, 0, packet_at, first, again, 0)

    def test_only_first_has_packets(self):
        self.assertEqual([most_delay((4, 4), (0,)), first_above((4, 4), (0,), 5), first_above((4, 4), (0,), 6)],
                         [6, (1, 3), None])
        self.assertEqual([packet_at((4, 4), (0,), 7), leaves_at((4, 4), (0,), 7), leaves_at((4, 4), (0,), 8)],
                         [(1, 3, 6), 7, None])
        self.assertEqual([came_by((4, 4), (0,), FAR), left_by((4, 4), (0,), FAR)], [8, 8])

    def test_calls_are_alike_and_change_nothing(self):
        for first, again in made_arrivals(86, 20):
            kept = repr((first, again))
            for function, rest in ((waits_at, (FAR,)), (lap_goes, ()), (most_delay, ()), (first_above, (3,))):
                self.assertEqual(function(first, again, *rest), function(tuple(list(first)), tuple(list(again)), *rest))
            self.assertEqual(repr((first, again)), kept)


if __name__ == "__main__":
    unittest.main()

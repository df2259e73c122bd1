"""Far slots: a plain queue of arrivals that come round for ever.

Over a lap, w that wait at its beginning become w + more, more being how many more packets come in
it than it has slots, but never fewer than wait behind a lap ahead of which none waits. So how
many wait at the beginning of any lap is told at once, however far it is.
"""

from queueloops.errors import BadArrivals, BadNumber, BadPlace, BadSlot, TooFew
from queueloops.values import is_within

MOST_COUNTS = 1000
MOST_COUNT = 4
FARTHEST = 1000000000000000000


def are_counts(value, fewest):
    """Whether any value is a tuple of so many counts at least."""
    if not isinstance(value, tuple) or not fewest <= len(value) <= MOST_COUNTS:
        return False
    return all([is_within(count, 0, MOST_COUNT) for count in value])


def check_arrivals(first, again):
    """Raises BadArrivals for what are no arrivals."""
    if not are_counts(first, 0) or not are_counts(again, 1):
        raise BadArrivals((first, again))


def check_slot(first, again, slot):
    """Raises BadArrivals for what are no arrivals, and BadSlot for what is no slot."""
    check_arrivals(first, again)
    if not is_within(slot, 0, FARTHEST):
        raise BadSlot(slot)


def more_in_lap(again):
    """How many more packets come in a lap than leave in it, if one leaves at each of its slots."""
    return sum(again) - len(again)


def waits_behind(waits, counts):
    """How many wait behind slots with these counts, if so many wait ahead of them."""
    for count in counts:
        waits = max(waits + count - 1, 0)
    return waits


def waits_at_lap(first, again, lap):
    """How many wait at the beginning of a lap."""
    waits = waits_behind(0, first)
    if lap == 0:
        return waits
    more = more_in_lap(again)
    # If more come than leave, also what was left behind the first lap grows with each lap behind that one.
    return max(waits + lap * more, waits_behind(0, again) + (lap - 1) * max(more, 0))


def part_of_lap(first, again, slot):
    """(lap, part): the slot, not one of those of first, is number part, from 0, of this lap."""
    return divmod(slot - len(first), len(again))


def count_at(first, again, slot):
    """How many come at a slot, however far."""
    if slot < len(first):
        return first[slot]
    _, part = part_of_lap(first, again, slot)
    return again[part]


def came_ahead(first, again, slot):
    """How many came ahead of a slot, however far."""
    if slot < len(first):
        return sum(first[:slot])
    lap, part = part_of_lap(first, again, slot)
    return sum(first) + lap * sum(again) + sum(again[:part])


def waits_ahead(first, again, slot):
    """How many wait ahead of a slot, however far."""
    if slot < len(first):
        return waits_behind(0, first[:slot])
    lap, part = part_of_lap(first, again, slot)
    return waits_behind(waits_at_lap(first, again, lap), again[:part])


def came_by(first, again, slot):
    """How many packets came at slots below this one."""
    check_slot(first, again, slot)
    return came_ahead(first, again, slot)


def left_by(first, again, slot):
    """How many packets left at slots below this one."""
    check_slot(first, again, slot)
    return came_ahead(first, again, slot) - waits_ahead(first, again, slot)


def waits_at(first, again, slot):
    """How many packets wait ahead of this slot."""
    check_slot(first, again, slot)
    return waits_ahead(first, again, slot)


def delay_at(first, again, slot, place):
    """The delay of the packet with this place that comes at this slot."""
    check_slot(first, again, slot)
    if not is_within(place, 0, count_at(first, again, slot) - 1):
        raise BadPlace(place)
    return waits_ahead(first, again, slot) + place


def place_among(counts, number):
    """(slot, place) of the packet with this number, one of those that come by these counts."""
    slot = 0
    while number >= counts[slot]:
        number -= counts[slot]
        slot += 1
    return slot, number


def place_of(first, again, number):
    """(slot, place) of the packet with this number, one of those that ever come."""
    many = sum(first)
    if number < many:
        return place_among(first, number)
    lap, left = divmod(number - many, sum(again))
    part, place = place_among(again, left)
    return len(first) + lap * len(again) + part, place


def packet_at(first, again, number):
    """(slot, place, delay) of the packet with this number."""
    check_arrivals(first, again)
    if not is_within(number, 0, FARTHEST):
        raise BadNumber(number)
    many = sum(first)
    if sum(again) == 0 and number >= many:
        raise TooFew(many)
    slot, place = place_of(first, again, number)
    return slot, place, waits_ahead(first, again, slot) + place


def leaves_at(first, again, slot):
    """The number of the packet that leaves at this slot; None if none does."""
    check_slot(first, again, slot)
    waits = waits_ahead(first, again, slot)
    if waits + count_at(first, again, slot) == 0:
        return None
    return came_ahead(first, again, slot) - waits


def lap_goes(first, again):
    """How many wait at the beginning of laps, and from which lap on."""
    check_arrivals(first, again)
    more = more_in_lap(again)
    waits = waits_behind(0, first)
    fewest = waits_behind(0, again)
    if more > 0:
        return "grows", 0 if waits + more >= fewest else 1, more
    if waits < fewest:
        return "round", 1, fewest
    if more == 0:
        return "round", 0, waits
    return "round", (waits - fewest - more - 1) // -more, fewest


def greatest_delays(first, again):
    """(slot, delay) for each slot at which packets come, up to the end of lap 1: the greatest delay of these."""
    told = []
    waits = 0
    for slot, count in enumerate(first + again + again):
        if count > 0:
            told.append((slot, waits + count - 1))
        waits = max(waits + count - 1, 0)
    return told


def most_delay(first, again):
    """The greatest delay of any packet; None if there is no greatest one, -1 if no packet ever comes."""
    check_arrivals(first, again)
    if more_in_lap(again) > 0:
        return None
    # Ahead of a slot of a lap behind lap 1, no more wait than ahead of the same slot of lap 1.
    return max([-1] + [delay for _, delay in greatest_delays(first, again)])


def slot_above(first, again, size):
    """The first slot at which a packet comes whose delay is above the size; None if there is none."""
    told = greatest_delays(first, again)
    found = [slot for slot, delay in told if delay > size]
    if found:
        return found[0]
    more = more_in_lap(again)
    if more <= 0:
        return None
    # From lap 1 on, each delay is more than the one in the lap ahead, by so much.
    lap_told = [(slot, delay) for slot, delay in told if slot >= len(first) + len(again)]
    laps = (size - max([delay for _, delay in lap_told])) // more + 1
    found = [slot for slot, delay in lap_told if delay + laps * more > size]
    return found[0] + laps * len(again)


def first_above(first, again, size):
    """(slot, place) of the first packet whose delay is above the size; None if there is none."""
    check_arrivals(first, again)
    if not is_within(size, 0, FARTHEST):
        raise BadNumber(size)
    slot = slot_above(first, again, size)
    if slot is None:
        return None
    # No more wait ahead of it than the size: the last of these would be delayed by more, and came at a lesser slot.
    return slot, size + 1 - waits_ahead(first, again, slot)

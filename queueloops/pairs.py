"""Pairs: which two packets can be under way together, and the shortest scripts for them."""

from queueloops.errors import BadPair, NoPair
from queueloops.services import check_service, check_size
from queueloops.values import is_within

MOST_LATER = 400


def check_pair(size, pair):
    """Raises BadPair for what is no pair with delays up to the size."""
    if not isinstance(pair, tuple) or len(pair) != 3:
        raise BadPair(pair)
    ahead, behind, later = pair
    if not (is_within(ahead, 0, size) and is_within(behind, 0, size) and is_within(later, 0, MOST_LATER)):
        raise BadPair(pair)


def is_possible(service, pair):
    """Whether a pair of any integers from 0 on can be in the service, with any size that its delays do not exceed."""
    word, most = service
    ahead, behind, later = pair
    if word == "any":
        return ahead != later + behind and (later > 0 or most > 1)
    if ahead >= later + behind:
        return False
    if word == "order":
        return later > 0 or most > 1
    # From just ahead of the first packet to just behind the second one, most - 1 more can wait with each slot.
    return behind - ahead <= (later + 1) * (most - 1) and (most > 1 or ahead == 0)


def can_be(service, size, pair):
    """Whether there is a script two packets of which are this pair."""
    check_service(service)
    check_size(size)
    check_pair(size, pair)
    return is_possible(service, pair)


def waits_first(most, pair):
    """How many packets of a queue at least wait ahead of the slot of the pair's first packet, if the pair can be."""
    ahead, behind, later = pair
    return max(0, ahead - (most - 1), behind - (later + 1) * (most - 1))


def slots_first(service, pair):
    """The fewest slots that stand ahead of the one of the pair's first packet, if the pair can be."""
    word, most = service
    if word != "queue" or most == 1:
        return 0
    return (waits_first(most, pair) + most - 2) // (most - 1)


def fewest_slots(service, pair):
    """The fewest slots of a script two packets of which are this pair, if it can be."""
    return slots_first(service, pair) + pair[2] + 1


def queue_waits(service, pair):
    """The fewest that wait ahead of each slot of a shortest script for a pair of a queue, and behind its last slot."""
    most = service[1]
    ahead, behind, later = pair
    first = slots_first(service, pair)
    slots = first + later + 1
    waits = [max(0, waits_first(most, pair) - (first - slot) * (most - 1)) for slot in range(first + 1)]
    for slot in range(first + 1, slots + 1):
        waits.append(max(0, ahead - (slot - first - 1), behind - (slots - slot) * (most - 1)))
    return waits


def queue_script(service, pair):
    """(script, one, other) for a pair that can be in a queue."""
    ahead, behind, later = pair
    first = slots_first(service, pair)
    waits = queue_waits(service, pair)
    counts = [waits[slot + 1] - waits[slot] + 1 for slot in range(len(waits) - 1)]
    one = sum(counts[:first]) + ahead - waits[first]
    other = sum(counts[:first + later]) + behind - waits[first + later]
    return tuple(counts), one, other


def pair_script(service, size, pair):
    """(script, one, other): a shortest script for this pair, and the numbers of its two packets."""
    if not can_be(service, size, pair):
        raise NoPair(pair)
    if service[0] == "queue":
        return queue_script(service, pair)
    ahead, behind, later = pair
    if later == 0:
        return ((ahead, behind),), 0, 1
    return ((ahead,),) + ((),) * (later - 1) + ((behind,),), 0, 1

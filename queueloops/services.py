"""Services, sizes and scripts: what comes, slot by slot, and what can come next.

What stands ahead of a slot is told by one integer, called held, which is 0 ahead of slot 0.
For "queue" and "order" it is the least delay that leads behind all packets so far; for "any"
its bit number x is set if a packet leaves x slots later. So one way through a script does for
all services, and what can stand next depends on nothing else that came.
"""

from queueloops.errors import BadCounts, BadNumber, BadScript, BadService, BadSize, BadSlot, TooGreat, TooMany
from queueloops.values import is_within

WORDS = ("queue", "order", "any")
MOST_AT_SLOT = 4
MOST_SIZE = 400
MOST_SLOTS = 1000
MOST_COUNT = 1000
MOST_SLOTS_COUNTED = 40
MOST_SIZE_COUNTED = 20
MOST_SIZE_COUNTED_ANY = 6


def is_service(value):
    """Whether any value is a service."""
    if not isinstance(value, tuple) or len(value) != 2:
        return False
    word, most = value
    return isinstance(word, str) and word in WORDS and is_within(most, 1, MOST_AT_SLOT)


def check_service(service):
    """Raises BadService for what is no service."""
    if not is_service(service):
        raise BadService(service)


def check_size(size):
    """Raises BadSize for what is no size."""
    if not is_within(size, 0, MOST_SIZE):
        raise BadSize(size)


def is_free(word, size, held, delay):
    """Whether any value is a delay that one packet more can have."""
    if not is_within(delay, 0, size):
        return False
    if word == "any":
        return held >> delay & 1 == 0
    return delay >= held if word == "order" else delay == held


def free_delays(word, size, held):
    """All delays that one packet more can have, ascending."""
    return [delay for delay in range(size + 1) if is_free(word, size, held, delay)]


def held_with(word, held, delay):
    """What is held in the same slot behind one packet more."""
    return held | 1 << delay if word == "any" else delay + 1


def held_later(word, held):
    """What is held ahead of the next slot."""
    return held >> 1 if word == "any" else max(held - 1, 0)


def held_behind(word, held, delays):
    """What is held behind a slot whose packets have these delays."""
    for delay in delays:
        held = held_with(word, held, delay)
    return held_later(word, held)


def told_delays(service, held, slot):
    """The delays that any value, as a slot, tells; None if it has not the form of one."""
    word, most = service
    if word == "queue":
        return tuple(range(held, held + slot)) if is_within(slot, 0, most) else None
    return slot if isinstance(slot, tuple) and len(slot) <= most else None


def slot_delays(service, size, held, slot):
    """The delays of the packets of a slot; None for any value that cannot stand there."""
    word = service[0]
    delays = told_delays(service, held, slot)
    if delays is None:
        return None
    for delay in delays:
        if not is_free(word, size, held, delay):
            return None
        held = held_with(word, held, delay)
    return delays


def delays_standing(service, size, script):
    """The pair of the list of the delays at each slot, as far as slots can stand, and of what is held behind these."""
    rows = []
    held = 0
    for slot in script:
        delays = slot_delays(service, size, held, slot)
        if delays is None:
            break
        rows.append(delays)
        held = held_behind(service[0], held, delays)
    return rows, held


def read_script(service, size, script):
    """The pair of the list of the delays at each slot, and of what is held behind the script."""
    check_service(service)
    check_size(size)
    if not isinstance(script, tuple) or len(script) > MOST_SLOTS:
        raise BadScript(None)
    rows, held = delays_standing(service, size, script)
    if len(rows) < len(script):
        raise BadScript(len(rows))
    return rows, held


def held_next(service, size, script):
    """What is held ahead of the slot that comes next, if there can be one."""
    _, held = read_script(service, size, script)
    if len(script) == MOST_SLOTS:
        raise TooMany(MOST_SLOTS)
    return held


def packets_with(rows):
    """(slot, delay) of each packet, by number, for the delays at each slot."""
    return tuple([(slot, delay) for slot, delays in enumerate(rows) for delay in delays])


def packets_of(service, size, script):
    """(slot, delay) of each packet, by number."""
    rows, _ = read_script(service, size, script)
    return packets_with(rows)


def leaves_of(service, size, script):
    """(slot, packet) for all packets: at which slot which number leaves."""
    packets = packets_of(service, size, script)
    return tuple(sorted([(slot + delay, number) for number, (slot, delay) in enumerate(packets)]))


def led_on(service, size, script, slot):
    """The script with this slot more."""
    held = held_next(service, size, script)
    if slot_delays(service, size, held, slot) is None:
        raise BadSlot(slot)
    return script + (slot,)


def fits(service, size, script):
    """The greatest count that can stand next; for "order" and "any" the delays that one packet can have."""
    held = held_next(service, size, script)
    word, most = service
    if word == "queue":
        return min(most, size + 1 - held)
    return tuple(free_delays(word, size, held))


def waiting(counts):
    """How many packets a queue has left behind each slot."""
    if not isinstance(counts, tuple) or len(counts) > MOST_SLOTS:
        raise BadCounts(counts)
    if not all([is_within(count, 0, MOST_COUNT) for count in counts]):
        raise BadCounts(counts)
    left = []
    many = 0
    for count in counts:
        many = max(many + count - 1, 0)
        left.append(many)
    return tuple(left)


def scripts_many(service, size, slots):
    """How many scripts of just so many slots there are."""
    check_service(service)
    check_size(size)
    if not is_within(slots, 0, MOST_SLOTS_COUNTED):
        raise BadNumber(slots)
    if size > (MOST_SIZE_COUNTED_ANY if service[0] == "any" else MOST_SIZE_COUNTED):
        raise TooGreat(size)
    many = {0: 1}
    for _ in range(slots):
        many = many_behind(service, size, many)
    return sum(many.values())


def many_behind(service, size, many):
    """How many scripts hold what, one slot later than those of the dict many."""
    word, most = service
    behind = {}
    for _ in range(most + 1):
        for held, times in many.items():
            later = held_later(word, held)
            behind[later] = behind.get(later, 0) + times
        many = many_with(word, size, many)
    return behind


def many_with(word, size, many):
    """How many scripts hold what, with one packet more in the same slot than those of the dict many."""
    more = {}
    for held, times in many.items():
        for delay in free_delays(word, size, held):
            reached = held_with(word, held, delay)
            more[reached] = more.get(reached, 0) + times
    return more

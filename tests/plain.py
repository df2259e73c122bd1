"""What the tests compare the package with: plain goings through all there is, and odd values."""

from itertools import combinations, permutations, product

from queueloops.devices import Device
from queueloops.errors import BadRow


def nested(depth, kind):
    """A value that is so many tuples, lists or dicts deep."""
    value = 0
    for _ in range(depth):
        value = {0: value} if kind is dict else kind([value])
    return value


def odd_values():
    """Values of any kind, none of which is an integer, a row, stages, a rule, a service or a script."""
    return [
        None, True, False, "", "0", "stage 0 1", "queue", [], {}, {0: 1}, [0], [0, 1], [[0, 1]], {"queue": 1},
        (None,), ("0",), ([],), ({},), ((),) * 7 + (None,), (True,), (-1,), (((0,),),),
        Device("stage 0 1"), BadRow(1), (Device("stage 0 1"),),
        nested(60, tuple), nested(60, list), nested(60, dict),
    ]


def is_int(value):
    return type(value) is int


def leaves_so_far(service, size, leaves, slot, what):
    """The slots at which packets leave, with those of this slot; None if it cannot stand there."""
    word, most = service
    leaves = list(leaves)
    if word == "queue":
        if not is_int(what) or not 0 <= what <= most:
            return None
        for _ in range(what):
            leave = slot
            while any(leave <= other for other in leaves):
                leave += 1
            if leave - slot > size:
                return None
            leaves.append(leave)
        return leaves
    if type(what) is not tuple or len(what) > most:
        return None
    for delay in what:
        if not is_int(delay) or not 0 <= delay <= size:
            return None
        leave = slot + delay
        if word == "order" and any(leave <= other for other in leaves):
            return None
        if word == "any" and leave in leaves:
            return None
        leaves.append(leave)
    return leaves


def plain_packets(service, size, script):
    """A list of (slot, delay) for all packets; the number of the first slot that cannot stand, if one cannot."""
    leaves, packets = [], []
    for slot, what in enumerate(script):
        more = leaves_so_far(service, size, leaves, slot, what)
        if more is None:
            return slot
        packets += [(slot, leave - slot) for leave in more[len(leaves):]]
        leaves = more
    return packets


def all_slots(service, size):
    """All that has the form of a slot."""
    word, most = service
    if word == "queue":
        return list(range(most + 1))
    return [what for many in range(most + 1) for what in product(range(size + 1), repeat=many)]


def all_scripts(service, size, slots):
    """All scripts of so many slots."""
    slot_forms = all_slots(service, size)
    scripts = [()]
    for _ in range(slots):
        scripts = [script + (what,) for script in scripts for what in slot_forms
                   if is_script(service, size, script + (what,))]
    return scripts


def is_script(service, size, script):
    return type(plain_packets(service, size, script)) is list


def count_scripts(service, size, slots):
    """How many scripts there are, by the slots, from the next one on, at which packets leave."""
    word, most = service
    many = {(): 1}
    for _ in range(slots):
        behind = {}
        for taken, times in many.items():
            for reached in reached_from(word, most, size, taken):
                later = tuple(leave - 1 for leave in reached if leave > 0)
                behind[later] = behind.get(later, 0) + times
        many = behind
    return sum(many.values())


def reached_from(word, most, size, taken):
    """All that is taken behind one slot, each as often as slots lead to it."""
    last = max(taken, default=-1)
    reached = []
    for packets in range(most + 1):
        if word == "queue":
            more = tuple(range(last + 1, last + 1 + packets))
            if all(leave <= size for leave in more):
                reached.append((max(taken + more, default=-1),) if taken + more else ())
        elif word == "order":
            for more in combinations(range(last + 1, size + 1), packets):
                reached.append((max(taken + more),) if taken + more else ())
        else:
            free = [leave for leave in range(size + 1) if leave not in taken]
            for more in permutations(free, packets):
                reached.append(tuple(sorted(taken + more)))
    return reached


ALL_SERVICES = [(word, most) for word in ("queue", "order", "any") for most in (1, 2, 3, 4)]


def made_script(choice, service, size, slots):
    """A script of at most so many slots; choice, a random.Random with a seed, tells which one."""
    word, most = service
    script, leaves = (), []
    for slot in range(slots):
        for _ in range(6):
            if word == "queue":
                what = choice.randint(0, most)
            else:
                what = [choice.randint(0, size) for _ in range(choice.randint(0, most))]
                what = tuple(sorted(what) if word == "order" else what)
            more = leaves_so_far(service, size, leaves, slot, what)
            if more is not None:
                break
        else:
            what, more = (0 if word == "queue" else ()), leaves
        script, leaves = script + (what,), [leave for leave in more if leave >= slot]
    return script

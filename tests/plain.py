"""What the tests compare the package with: plain goings through all there is, and odd values."""

import re
import unittest
from itertools import combinations, permutations, product

from queueloops.devices import Device, is_rule, least_rule
from queueloops.errors import (BadDeed, BadName, BadRow, BadRule, BadSlots, Held, LoopError, NoNote, NothingToRedo,
                               NothingToUndo, NoThing, WrongKind)
from queueloops.runs import Run


class Checks(unittest.TestCase):
    def raises(self, error, value, function, *arguments):
        """The call raises just this error with just this value."""
        with self.assertRaises(LoopError) as caught:
            function(*arguments)
        self.assertIs(type(caught.exception), error)
        self.assertEqual(caught.exception.value, value)
        # Of equal values True and 1, and 0 and False, are told apart by how they are written.
        self.assertEqual(repr(caught.exception.value), repr(value))


def nested(depth, kind):
    """A value that is so many tuples, lists or dicts deep."""
    value = 0
    for _ in range(depth):
        value = {0: value} if kind is dict else kind([value])
    return value


def odd_values():
    """Values of any kind, none of which is an integer, a row, stages, a rule, a service or a script."""
    return [
        None, True, False, "", "0", "stage 0 1", "queue", [], {}, {0: 1}, [0], [0, 1], [[0, 1]], {"queue": 1},
        (None,), ("0",), ([],), ({},), ((),) * 7 + (None,), (True,), (-1,), (((0,),),),
        Device("stage 0 1"), BadRow(1), (Device("stage 0 1"),),
        nested(60, tuple), nested(60, list), nested(60, dict),
    ]


def is_int(value):
    return type(value) is int


def leaves_so_far(service, size, leaves, slot, what):
    """The slots at which packets leave, with those of this slot; None if it cannot stand there."""
    word, most = service
    leaves = list(leaves)
    if word == "queue":
        if not is_int(what) or not 0 <= what <= most:
            return None
        for _ in range(what):
            leave = slot
            while any(leave <= other for other in leaves):
                leave += 1
            if leave - slot > size:
                return None
            leaves.append(leave)
        return leaves
    if type(what) is not tuple or len(what) > most:
        return None
    for delay in what:
        if not is_int(delay) or not 0 <= delay <= size:
            return None
        leave = slot + delay
        if word == "order" and any(leave <= other for other in leaves):
            return None
        if word == "any" and leave in leaves:
            return None
        leaves.append(leave)
    return leaves


def plain_packets(service, size, script):
    """A list of (slot, delay) for all packets; the number of the first slot that cannot stand, if one cannot."""
    leaves, packets = [], []
    for slot, what in enumerate(script):
        more = leaves_so_far(service, size, leaves, slot, what)
        if more is None:
            return slot
        packets += [(slot, leave - slot) for leave in more[len(leaves):]]
        leaves = more
    return packets


def all_slots(service, size):
    """All that has the form of a slot."""
    word, most = service
    if word == "queue":
        return list(range(most + 1))
    return [what for many in range(most + 1) for what in product(range(size + 1), repeat=many)]


def all_scripts(service, size, slots):
    """All scripts of so many slots."""
    slot_forms = all_slots(service, size)
    scripts = [()]
    for _ in range(slots):
        scripts = [script + (what,) for script in scripts for what in slot_forms
                   if is_script(service, size, script + (what,))]
    return scripts


def is_script(service, size, script):
    return type(plain_packets(service, size, script)) is list


def count_scripts(service, size, slots):
    """How many scripts there are, by the slots, from the next one on, at which packets leave."""
    word, most = service
    many = {(): 1}
    for _ in range(slots):
        behind = {}
        for taken, times in many.items():
            for reached in reached_from(word, most, size, taken):
                later = tuple(leave - 1 for leave in reached if leave > 0)
                behind[later] = behind.get(later, 0) + times
        many = behind
    return sum(many.values())


def reached_from(word, most, size, taken):
    """All that is taken behind one slot, each as often as slots lead to it."""
    last = max(taken, default=-1)
    reached = []
    for packets in range(most + 1):
        if word == "queue":
            more = tuple(range(last + 1, last + 1 + packets))
            if all(leave <= size for leave in more):
                reached.append((max(taken + more, default=-1),) if taken + more else ())
        elif word == "order":
            for more in combinations(range(last + 1, size + 1), packets):
                reached.append((max(taken + more),) if taken + more else ())
        else:
            free = [leave for leave in range(size + 1) if leave not in taken]
            for more in permutations(free, packets):
                reached.append(tuple(sorted(taken + more)))
    return reached


ALL_SERVICES = [(word, most) for word in ("queue", "order", "any") for most in (1, 2, 3, 4)]


def made_script(choice, service, size, slots):
    """A script of at most so many slots; choice, a random.Random with a seed, tells which one."""
    word, most = service
    script, leaves = (), []
    for slot in range(slots):
        for _ in range(6):
            if word == "queue":
                what = choice.randint(0, most)
            else:
                what = [choice.randint(0, size) for _ in range(choice.randint(0, most))]
                what = tuple(sorted(what) if word == "order" else what)
            more = leaves_so_far(service, size, leaves, slot, what)
            if more is not None:
                break
        else:
            what, more = (0 if word == "queue" else ()), leaves
        script, leaves = script + (what,), [leave for leave in more if leave >= slot]
    return script


def all_rules(device, size):
    """All rules of this size."""
    rows = list(product(*[range(len(lengths)) for lengths in device.stages]))
    by_delay = [[row for row in rows if row_sum(device, row) == delay] for delay in range(size + 1)]
    return list(product(*by_delay))


def row_sum(device, row):
    return sum(lengths[lane] for lengths, lane in zip(device.stages, row))


def made_rule(choice, device, size):
    """A rule of the greatest size up to this one; choice, a random.Random with a seed, tells which one."""
    rows = list(product(*[range(len(lengths)) for lengths in device.stages]))
    rule = []
    for delay in range(size + 1):
        alike = [row for row in rows if row_sum(device, row) == delay]
        if not alike:
            break
        rule.append(choice.choice(alike))
    return tuple(rule)


def going(device, rule, packets, slots):
    """A list of (led, out, clashes, lanes ahead) for so many slots, packets being moved one slot after the other."""
    stages, under_way, told = device.stages, {}, []
    for slot in range(slots):
        lanes = [[[] for _ in lengths] for lengths in stages]
        for packet, (stage, lane, left) in sorted(under_way.items()):
            lanes[stage][lane].append((packet, left))
        ready = {packet: stage + 1 for packet, (stage, _, left) in under_way.items() if left == 0}
        ready.update({packet: 0 for packet, (came, _) in enumerate(packets) if came == slot})
        led, out = [], []
        for packet, stage in ready.items():
            under_way.pop(packet, None)
            row = rule[packets[packet][1]]
            while stage < len(stages):
                led.append((stage, row[stage], packet))
                if stages[stage][row[stage]] > 0:
                    under_way[packet] = (stage, row[stage], stages[stage][row[stage]])
                    break
                stage += 1
            else:
                out.append(packet)
        clashes = [one + (other[2],) for one in led for other in led if one[:2] == other[:2] and one[2] < other[2]]
        told.append((tuple(sorted(led)), tuple(sorted(out)), tuple(sorted(clashes)),
                     tuple(tuple(tuple(held) for held in stage) for stage in lanes)))
        under_way = {packet: (stage, lane, left - 1) for packet, (stage, lane, left) in under_way.items()}
    return told


def plain_clashes(device, rule, packets):
    """All clashes of these packets."""
    slots = max([came for came, _ in packets], default=0) + len(rule) + 1
    told = going(device, rule, packets, slots)
    return tuple((slot,) + clash for slot, (_, _, clashes, _) in enumerate(told) for clash in clashes)


def pairs_by_scripts(service, size, slots):
    """For each pair of a script of at most so many slots the fewest slots of such a script."""
    fewest = {}
    for many in range(slots + 1):
        for script in all_scripts(service, size, many):
            packets = plain_packets(service, size, script)
            for (slot, ahead), (later, behind) in combinations(packets, 2):
                fewest.setdefault((ahead, behind, later - slot), many)
    return fewest


def pairs_by_waits(most, size, later):
    """For each pair of a queue, up to so many slots apart, the fewest slots, by going through what can wait."""
    first, reached = {0: 0}, [0]
    for waits in reached:
        for count in range(most + 1):
            behind = max(waits + count - 1, 0)
            if waits + count - 1 <= size and behind not in first:
                first[behind] = first[waits] + 1
                reached.append(behind)
    fewest = {}
    for waits, slots in first.items():
        for count in range(1, min(most, size - waits + 1) + 1):
            for ahead in range(waits, waits + count):
                for behind in range(ahead + 1, waits + count):
                    keep_least(fewest, (ahead, behind, 0), slots + 1)
                ways = {waits + count - 1}
                for apart in range(1, later + 1):
                    for way in ways:
                        for behind in range(way, min(size, way + most - 1) + 1):
                            keep_least(fewest, (ahead, behind, apart), slots + apart + 1)
                    ways = {max(way + more - 1, 0) for way in ways for more in range(most + 1) if way + more - 1 <= size}
    return fewest


def keep_least(table, key, number):
    table[key] = min(number, table.get(key, number))


def plain_can_be(service, size, pair):
    """Whether the pair can be, for small sizes; by the leaves alone where delays are told."""
    word, most = service
    ahead, behind, later = pair
    if word == "queue":
        if (most, size) not in QUEUE_PAIRS or QUEUE_PAIRS[most, size][0] < later:
            QUEUE_PAIRS[most, size] = (max(later, size), pairs_by_waits(most, size, max(later, size)))
        return pair in QUEUE_PAIRS[most, size][1]
    if later == 0 and most == 1:
        return False
    return ahead < later + behind if word == "order" else ahead != later + behind


QUEUE_PAIRS = {}


def meeting_stages(device, rule, pair):
    """(stages, clashing stages) of two packets that are this pair, as they go along the lanes."""
    ahead, behind, later = pair
    led = going(device, rule, [(0, ahead), (later, behind)], later + max(ahead, behind) + 1)
    both = [(stage, lane == other_lane) for row, _, _, _ in led for stage, lane, packet in row if packet == 0
            for other_stage, other_lane, other in row if other == 1 and other_stage == stage]
    return tuple(sorted(stage for stage, _ in both)), tuple(sorted(stage for stage, one_lane in both if one_lane))


def plain_clash_pairs(device, rule, service):
    """All (x, y, d, stage) that can be and clash, for small sizes."""
    size = len(rule) - 1
    return tuple(pair + (stage,) for pair in product(range(size + 1), range(size + 1), range(size + 1))
                 if plain_can_be(service, size, pair) for stage in meeting_stages(device, rule, pair)[1])


def fewest_to_clash(device, rule, service):
    """The fewest slots of a script that has a clash, by going through all that can be under way; None if none has."""
    size, known = len(rule) - 1, {}

    def clash(ahead, behind, later):
        key = (ahead, behind, later)
        if key not in known:
            known[key] = bool(meeting_stages(device, rule, key)[1])
        return known[key]

    reached, seen, slots = [()], {()}, 0
    while reached:
        slots += 1
        behind = []
        for under_way in reached:
            for delays in ways_on(service, size, under_way):
                new = [(0, delay) for delay in delays]
                if any(clash(ahead, delay, age) for age, ahead in under_way for delay in delays):
                    return slots
                if any(clash(ahead, delay, 0) for ahead, delay in combinations(delays, 2)):
                    return slots
                later = tuple(sorted((age + 1, delay) for age, delay in list(under_way) + new if delay > age))
                if later not in seen:
                    seen.add(later)
                    behind.append(later)
        reached = behind
    return None


def ways_on(service, size, under_way):
    """The delays of the packets of each slot that can stand, if these (age, delay) are under way."""
    word, most = service
    taken = sorted(delay - age for age, delay in under_way)
    first = taken[-1] + 1 if taken else 0
    for many in range(most + 1):
        if word == "queue":
            delays = tuple(range(first, first + many))
            yield from [delays] if all(delay <= size for delay in delays) else []
        elif word == "order":
            yield from combinations(range(first, size + 1), many)
        else:
            yield from permutations([delay for delay in range(size + 1) if delay not in taken], many)


PARTS = {"device": 2, "rule": 3, "least": 3, "run": 3, "slots": 2, "copy": 2, "drop": 1}


def plain_is_name(value):
    return type(value) is str and re.fullmatch("[a-z]{1,8}", value) is not None


def plain_do(things, deed):
    """Does a deed with a dict of things, each a list [kind, device, worth]; raises what the document tells."""
    if type(deed) is not tuple or not deed or type(deed[0]) is not str or len(deed) - 1 != PARTS.get(deed[0], -1):
        raise BadDeed(deed)

    def find(name, kinds):
        if type(name) is not str or name not in things:
            raise NoThing(name)
        if things[name][0] not in kinds:
            raise WrongKind(name)
        return things[name]

    def new(name):
        if not plain_is_name(name):
            raise BadName(name)
        if name in things:
            raise Held(name)

    word, name = deed[:2]
    if word in ("device", "rule", "least", "run"):
        new(name)
    if word == "device":
        things[name] = ["device", Device(deed[2]), Device(deed[2])]
    elif word == "rule":
        device = find(deed[2], ["device"])[1]
        if not is_rule(device, deed[3]):
            raise BadRule(deed[3])
        things[name] = ["rule", device, deed[3]]
    elif word == "least":
        device = find(deed[2], ["device"])[1]
        things[name] = ["rule", device, least_rule(device, deed[3])]
    elif word == "run":
        device, rule = find(deed[2], ["rule"])[1:]
        things[name] = ["run", device, Run(device, rule, deed[3])]
    elif word == "slots":
        run = find(name, ["run"])[2].copy()
        if type(deed[2]) is not tuple or not 1 <= len(deed[2]) <= 100:
            raise BadSlots(deed[2])
        for who in deed[2]:
            run.go_on(who)
        things[name][2] = run
    elif word == "copy":
        kind, device, worth = find(name, ["device", "rule", "run"])
        new(deed[2])
        things[deed[2]] = [kind, device, worth.copy() if kind == "run" else worth]
    else:
        find(name, ["device", "rule", "run"])
        del things[name]


class PlainDesk:
    """A desk that does all deeds that stand anew, whenever it is asked."""

    def __init__(self):
        self.deeds, self.many, self.noted = [], 0, {}

    def things(self):
        things = {}
        for deed in self.deeds[:self.many]:
            plain_do(things, deed)
        return things

    def lead(self, deed):
        plain_do(self.things(), deed)
        self.noted = {word: many for word, many in self.noted.items() if many <= self.many}
        self.deeds[self.many:] = [deed]
        self.many += 1

    def undo(self):
        if self.many == 0:
            raise NothingToUndo(0)
        self.many -= 1

    def redo(self):
        if self.many == len(self.deeds):
            raise NothingToRedo(self.many)
        self.many += 1

    def note(self, word):
        if not plain_is_name(word):
            raise BadName(word)
        self.noted[word] = self.many

    def back(self, word):
        if type(word) is not str or word not in self.noted:
            raise NoNote(word)
        self.many = self.noted[word]

    def text(self):
        lines = ["stand %d" % self.many] + ["note %s %d" % note for note in sorted(self.noted.items())]
        return "\n".join(lines + [plain_deed_text(deed) for deed in self.deeds])

    def stands(self):
        """All that can be asked of a desk."""
        things = self.things()
        told = [tuple(sorted(things)), len(things), tuple(sorted(self.noted.items())),
                (tuple(self.deeds[:self.many]), tuple(self.deeds[self.many:])), self.text()]
        for name, (kind, device, worth) in sorted(things.items()):
            told.append((name, kind, device.text))
            told.append({"device": lambda: worth.text, "rule": lambda: worth,
                         "run": lambda: (worth.slot, worth.script, worth.lanes)}[kind]())
        return told


def plain_deed_text(deed):
    """The lines of a deed."""
    if deed[0] == "device":
        return "device %s %d\n%s" % (deed[1], len(deed[2].split("\n")), deed[2])
    words = list(deed)
    if deed[0] == "rule":
        words[3:] = ["".join(map(str, row)) for row in deed[3]]
    elif deed[0] == "run":
        words[3:] = deed[3]
    elif deed[0] == "slots":
        words[2:] = ["-" + ",".join(map(str, who)) if type(who) is tuple else who for who in deed[2]]
    return " ".join(map(str, words))


NUMBER, NAME = "(?:0|[1-9][0-9]{0,8})", "[a-z]{1,8}"
ONE_LINE = "|".join((
    f"rule {NAME} {NAME}(?: [0-9]+)+", f"least {NAME} {NAME} {NUMBER}", f"run {NAME} {NAME} [^ ]+ {NUMBER}",
    f"slots {NAME}(?: (?:{NUMBER}|-(?:{NUMBER}(?:,{NUMBER})*)?))+", f"copy {NAME} {NAME}", f"drop {NAME}"))


def plain_read_line(line):
    """The deed of a line that has the form of one."""
    words = line.split(" ")
    if words[0] == "rule":
        return ("rule", words[1], words[2], tuple(tuple(map(int, row)) for row in words[3:]))
    if words[0] == "least":
        return ("least", words[1], words[2], int(words[3]))
    if words[0] == "run":
        return ("run", words[1], words[2], (words[3], int(words[4])))
    if words[0] == "slots":
        whos = [int(who) if who[0] != "-" else tuple(map(int, who[1:].split(","))) if who[1:] else () for who in words[2:]]
        return ("slots", words[1], tuple(whos))
    return tuple(words)


def plain_bad_line(text):
    """The number of the first line of a desk's text that cannot stand; None if all can."""
    lines = text.split("\n")
    if not re.fullmatch(f"stand {NUMBER}", lines[0]):
        return 1
    numbers, words, at, many, things = [int(lines[0].split(" ")[1])], [""], 1, 0, {}
    while at < len(lines) and re.fullmatch(f"note {NAME} {NUMBER}", lines[at]):
        if lines[at].split(" ")[1] <= words[-1]:
            return at + 1
        words.append(lines[at].split(" ")[1])
        numbers.append(int(lines[at].split(" ")[2]))
        at += 1
    while at < len(lines):
        first, line = at + 1, lines[at]
        at += 1
        if re.fullmatch(f"device {NAME} {NUMBER}", line) and not line.endswith(" 0"):
            behind = int(line.split(" ")[2])
            if len(lines) < at + behind:
                return len(lines) + 1
            deed = ("device", line.split(" ")[1], "\n".join(lines[at:at + behind]))
            at += behind
        elif re.fullmatch(ONE_LINE, line):
            deed = plain_read_line(line)
        else:
            return first
        try:
            plain_do(things, deed)
        except LoopError:
            return first
        many += 1
    return next((line for line, number in enumerate(numbers, start=1) if number > many), None)

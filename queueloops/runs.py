"""Runs: where each packet is at each slot, and which ones clash.

The way of a packet is told as (packet, row, times): its number, its row, and the slots at which
it is led into its lane of each stage, with the one at which it is out as the last of them.
"""

from queueloops.devices import check_rule
from queueloops.errors import BadNumber, BadSlot
from queueloops.services import MOST_SLOTS, check_service, held_behind, packets_of, slot_delays
from queueloops.values import is_within

LAST_SLOT = 1000000


def times_of(device, row, slot):
    """When a packet of this row that comes at a slot is led into each stage, and is out at last."""
    times = [slot]
    for lengths, lane in zip(device.stages, row):
        times.append(times[-1] + lengths[lane])
    return tuple(times)


def ways_of(device, rule, packets, first):
    """The ways of packets told as (slot, delay), whose numbers begin with first."""
    ways = []
    for place, (slot, delay) in enumerate(packets):
        row = rule[delay]
        ways.append((first + place, row, times_of(device, row, slot)))
    return tuple(ways)


def script_ways(device, rule, service, script):
    """The ways of all packets of a script for the size of the rule."""
    check_rule(device, rule)
    return ways_of(device, rule, packets_of(service, len(rule) - 1, script), 0)


def routes(device, rule, service, script):
    """For each packet the slots at which it is led into its lanes."""
    return tuple([times[:-1] for _, _, times in script_ways(device, rule, service, script)])


def all_led(ways):
    """(slot, stage, lane, packet) for each lane into which each of the packets is led, ascending."""
    led = []
    for packet, row, times in ways:
        for stage, lane in enumerate(row):
            led.append((times[stage], stage, lane, packet))
    return sorted(led)


def clashes_among(led):
    """A clash for each two of what is led that differ in their last part alone, the packet; both ascend."""
    clashes = []
    packets = []
    place = ()
    for leading in led:
        if leading[:-1] != place:
            place = leading[:-1]
            packets = []
        packet = leading[-1]
        clashes.extend([place + (one, packet) for one in packets])
        packets.append(packet)
    return tuple(sorted(clashes))


def clashes_of(device, rule, service, script):
    """(slot, stage, lane, one, other) for all clashes."""
    return clashes_among(all_led(script_ways(device, rule, service, script)))


def lanes_with(device, ways, slot):
    """What is in the lanes ahead of a slot; the numbers of the packets ascend."""
    lanes = [[[] for _ in lengths] for lengths in device.stages]
    for packet, row, times in ways:
        for stage, lane in enumerate(row):
            if times[stage] < slot <= times[stage + 1]:
                lanes[stage][lane].append((packet, times[stage + 1] - slot))
    return tuple([tuple([tuple(held) for held in places]) for places in lanes])


def lanes_at(device, rule, service, script, slot):
    """What is in the lanes ahead of a slot, when the packets of a script come."""
    ways = script_ways(device, rule, service, script)
    if not is_within(slot, 0, LAST_SLOT):
        raise BadNumber(slot)
    return lanes_with(device, ways, slot)


def led_at(ways, slot):
    """(stage, lane, packet) for each lane into which a packet is led at a slot, ascending."""
    return tuple([leading[1:] for leading in all_led(ways) if leading[0] == slot])


class Run:
    """A device with a rule, into which packets come slot by slot."""

    def __init__(self, device, rule, service):
        check_rule(device, rule)
        check_service(service)
        self.device = device
        self.rule = rule
        self.service = service
        self.slot = 0
        self.script = ()
        self.held = 0
        self.many = 0
        self.under_way = ()
        self.lanes = lanes_with(device, (), 0)

    def go_on(self, who):
        """Does the slot that comes next; the triple of what is led, what is out, and the clashes."""
        delays = slot_delays(self.service, len(self.rule) - 1, self.held, who)
        if delays is None or self.slot == MOST_SLOTS:
            raise BadSlot(who)
        slot = self.slot
        new = [(slot, delay) for delay in delays]
        ways = self.under_way + ways_of(self.device, self.rule, new, self.many)
        led = led_at(ways, slot)
        out = tuple([packet for packet, _, times in ways if times[-1] == slot])
        self.slot = slot + 1
        self.script = self.script + (who,)
        self.held = held_behind(self.service[0], self.held, delays)
        self.many = self.many + len(delays)
        self.under_way = tuple([way for way in ways if way[2][-1] > slot])
        self.lanes = lanes_with(self.device, self.under_way, self.slot)
        return led, out, clashes_among(led)

    def copy(self):
        """A run that stands alike."""
        other = Run(self.device, self.rule, self.service)
        other.slot = self.slot
        other.script = self.script
        other.held = self.held
        other.many = self.many
        other.under_way = self.under_way
        other.lanes = self.lanes
        return other

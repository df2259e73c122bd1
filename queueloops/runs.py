"""Runs: where each packet is at each slot, and which ones clash.

Packets that are under way are told as (packet, slot, delay): its number, when it came, its delay.
"""

from queueloops.devices import check_rule
from queueloops.errors import BadNumber, BadSlot
from queueloops.services import MOST_SLOTS, check_service, held_behind, packets_of, slot_delays
from queueloops.values import is_within

LAST_SLOT = 1000000


def offsets_of(device, row):
    """How many slots behind its own one a packet of this row is led into each stage, and is out at last."""
    offsets = [0]
    for lengths, lane in zip(device.stages, row):
        offsets.append(offsets[-1] + lengths[lane])
    return offsets


def route_of(device, row, slot):
    """The slots at which a packet of this row that comes at a slot is led into its lanes."""
    return tuple([slot + offset for offset in offsets_of(device, row)[:-1]])


def packets_by(device, rule, service, script):
    """(slot, delay) of each packet of a script for the size of the rule."""
    check_rule(device, rule)
    return packets_of(service, len(rule) - 1, script)


def routes(device, rule, service, script):
    """For each packet the slots at which it is led into its lanes."""
    packets = packets_by(device, rule, service, script)
    return tuple([route_of(device, rule[delay], slot) for slot, delay in packets])


def all_led(device, rule, packets):
    """(slot, stage, lane, packet) for each lane into which each of the packets is led, ascending."""
    led = []
    for number, (slot, delay) in enumerate(packets):
        row = rule[delay]
        for stage, at in enumerate(route_of(device, row, slot)):
            led.append((at, stage, row[stage], number))
    return sorted(led)


def clashes_among(led):
    """A clash for each two of what is led that differ in their last part alone, the packet; both ascend."""
    clashes = []
    packets = []
    place = None
    for leading in led:
        if leading[:-1] != place:
            place = leading[:-1]
            packets = []
        packet = leading[-1]
        clashes.extend([place + (one, packet) for one in packets])
        packets.append(packet)
    return tuple(sorted(clashes))


def clashes_of(device, rule, service, script):
    """(slot, stage, lane, one, other) for all clashes."""
    packets = packets_by(device, rule, service, script)
    return clashes_among(all_led(device, rule, packets))


def lanes_with(device, rule, under_way, slot):
    """What is in the lanes ahead of a slot."""
    lanes = [[[] for _ in lengths] for lengths in device.stages]
    for packet, came, delay in under_way:
        row = rule[delay]
        offsets = offsets_of(device, row)
        for stage, lane in enumerate(row):
            left = came + offsets[stage + 1] - slot
            if came + offsets[stage] < slot and left >= 0:
                lanes[stage][lane].append((packet, left))
    return tuple([tuple([tuple(held) for held in places]) for places in lanes])


def lanes_at(device, rule, service, script, slot):
    """What is in the lanes ahead of a slot, when the packets of a script come."""
    packets = packets_by(device, rule, service, script)
    if not is_within(slot, 0, LAST_SLOT):
        raise BadNumber(slot)
    under_way = [(number, came, delay) for number, (came, delay) in enumerate(packets)]
    return lanes_with(device, rule, under_way, slot)


def led_at(device, rule, under_way, slot):
    """(stage, lane, packet) for each lane into which a packet is led at a slot, ascending."""
    led = []
    for packet, came, delay in under_way:
        row = rule[delay]
        for stage, at in enumerate(route_of(device, row, came)):
            if at == slot:
                led.append((stage, row[stage], packet))
    return tuple(sorted(led))


class Run:
    """A device with a rule, into which packets come slot by slot."""

    def __init__(self, device, rule, service):
        check_rule(device, rule)
        check_service(service)
        self.device = device
        self.rule = rule
        self.service = service
        self.slot = 0
        self.script = ()
        self.held = 0
        self.many = 0
        self.under_way = ()
        self.lanes = lanes_with(device, rule, (), 0)

    def go_on(self, who):
        """Does the slot that comes next; the triple of what is led, what is out, and the clashes."""
        delays = slot_delays(self.service, len(self.rule) - 1, self.held, who)
        if delays is None or self.slot == MOST_SLOTS:
            raise BadSlot(who)
        slot = self.slot
        new = tuple([(self.many + place, slot, delay) for place, delay in enumerate(delays)])
        under_way = self.under_way + new
        led = led_at(self.device, self.rule, under_way, slot)
        out = tuple([packet for packet, came, delay in under_way if came + delay == slot])
        self.slot = slot + 1
        self.script = self.script + (who,)
        self.held = held_behind(self.service[0], self.held, delays)
        self.many = self.many + len(delays)
        self.under_way = tuple([part for part in under_way if part[1] + part[2] > slot])
        self.lanes = lanes_with(self.device, self.rule, self.under_way, self.slot)
        return led, out, clashes_among(led)

    def copy(self):
        """A run that stands alike."""
        other = Run(self.device, self.rule, self.service)
        other.slot = self.slot
        other.script = self.script
        other.held = self.held
        other.many = self.many
        other.under_way = self.under_way
        other.lanes = self.lanes
        return other

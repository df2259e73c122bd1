"""Like devices: turned about, with lanes in another order or left out, and devices that clash alike.

A clash hangs on the pair of its two packets alone, and by ("order", n) and ("any", n) each pair
that can be is the only one of some script. So two devices clash alike exactly if the same pairs
clash in both.
"""

from queueloops.devices import Device, check_rule, device_text
from queueloops.errors import BadNumber, BadOrder, BadService, FewLanes, InUse, UnlikeSizes
from queueloops.pairs import pair_script
from queueloops.services import delays_standing, is_service
from queueloops.tables import clash_pairs, has_clash
from queueloops.values import is_order, is_within

FEWEST_LANES_LEFT = 2


def turned(device):
    """The device with its stages in reverse."""
    return Device(device_text(device.stages[::-1]))


def turned_rule(device, rule):
    """The rule for the turned device with the same lanes."""
    check_rule(device, rule)
    return tuple([row[::-1] for row in rule])


def check_stage(device, stage):
    """Raises BadNumber for what is no number of a stage."""
    if not is_within(stage, 0, len(device) - 1):
        raise BadNumber(stage)


def check_order(device, stage, order):
    """Raises BadNumber for what is no number of a stage, and BadOrder for what is no order of its lanes."""
    check_stage(device, stage)
    if not is_order(order, len(device.stages[stage])):
        raise BadOrder(order)


def device_of_lanes(device, stage, lanes):
    """The device which at this stage has only the lanes that had these numbers, in this order."""
    lengths = tuple([device.stages[stage][lane] for lane in lanes])
    return Device(device_text(device.stages[:stage] + (lengths,) + device.stages[stage + 1:]))


def rule_of_lanes(rule, stage, lanes):
    """The rule for that device whose rows lead into the same lanes; all that they lead into are among these."""
    return tuple([row[:stage] + (lanes.index(row[stage]),) + row[stage + 1:] for row in rule])


def with_lanes(device, stage, order):
    """The device with the lanes of a stage in this order."""
    check_order(device, stage, order)
    return device_of_lanes(device, stage, order)


def rule_with_lanes(device, rule, stage, order):
    """The rule for the device with the lanes of a stage in this order."""
    check_rule(device, rule)
    check_order(device, stage, order)
    return rule_of_lanes(rule, stage, order)


def delays_led(rule, stage, lane):
    """The delays of the rows that lead into a lane, ascending."""
    return tuple([delay for delay, row in enumerate(rule) if row[stage] == lane])


def unused_lanes(device, rule):
    """(stage, lane) for all lanes into which no row leads."""
    check_rule(device, rule)
    lanes = [(stage, lane) for stage, lengths in enumerate(device.stages) for lane in range(len(lengths))]
    return tuple([(stage, lane) for stage, lane in lanes if not delays_led(rule, stage, lane)])


def lane_out(device, rule, stage, lane):
    """The pair of the device without a lane, and of the rule for it."""
    check_rule(device, rule)
    check_stage(device, stage)
    many = len(device.stages[stage])
    if not is_within(lane, 0, many - 1):
        raise BadNumber(lane)
    delays = delays_led(rule, stage, lane)
    if delays:
        raise InUse(delays)
    if many == FEWEST_LANES_LEFT:
        raise FewLanes(stage)
    lanes = [other for other in range(many) if other != lane]
    return device_of_lanes(device, stage, lanes), rule_of_lanes(rule, stage, lanes)


def pairs_clashing(device, rule, service):
    """A dict of all pairs that can be and clash."""
    return {clash[:3]: True for clash in clash_pairs(device, rule, service)}


def parting_pairs(device, rule, other, other_rule, service):
    """(pair, word) for each pair that clashes in just one of the devices, the word telling in which one."""
    check_rule(device, rule)
    check_rule(other, other_rule)
    sizes = (len(rule) - 1, len(other_rule) - 1)
    if sizes[0] != sizes[1]:
        raise UnlikeSizes(sizes)
    if not is_service(service) or service[0] == "queue":
        raise BadService(service)
    one_has = pairs_clashing(device, rule, service)
    other_has = pairs_clashing(other, other_rule, service)
    parting = [(pair, "one") for pair in one_has if pair not in other_has]
    return parting + [(pair, "other") for pair in other_has if pair not in one_has]


def alike(device, rule, other, other_rule, service):
    """Whether both devices have clashes by the same scripts; otherwise a shortest script that parts them."""
    parting = parting_pairs(device, rule, other, other_rule, service)
    if not parting:
        return ("alike",)
    slots = [pair[2] for pair, _ in parting]
    pair, word = parting[slots.index(min(slots))]
    return "parts", pair_script(service, len(rule) - 1, pair)[0], word


def shows_alike(device, rule, other, other_rule, service, value):
    """Whether any value is what alike may return."""
    parting = parting_pairs(device, rule, other, other_rule, service)
    if not parting:
        return value == ("alike",)
    if not isinstance(value, tuple) or len(value) != 3 or value[0] != "parts":
        return False
    _, script, word = value
    slots = min([pair[2] for pair, _ in parting]) + 1
    if not isinstance(script, tuple) or len(script) != slots:
        return False
    rows, _ = delays_standing(service, len(rule) - 1, script)
    one_has = has_clash(device, rule, rows)
    if len(rows) < slots or one_has == has_clash(other, other_rule, rows):
        return False
    return word == ("one" if one_has else "other")

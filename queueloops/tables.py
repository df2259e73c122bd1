"""Tables: which pairs of packets clash, and so whether a device serves by a rule, for all scripts.

A script has a clash exactly if two of its packets do, and they do so by their pair alone. So
the pairs that can be and clash, which are finitely many, decide about all scripts.
"""

from queueloops.devices import check_rule
from queueloops.pairs import check_pair, fewest_slots, is_possible, pair_script
from queueloops.runs import all_led, clashes_among, times_of, ways_of
from queueloops.services import check_service, delays_standing, packets_with


def meets(device, rule, pair):
    """The stages at which two packets that are such a pair are led into lanes at the same slot."""
    check_rule(device, rule)
    check_pair(len(rule) - 1, pair)
    ahead, behind, later = pair
    ahead_times = times_of(device, rule[ahead], 0)
    behind_times = times_of(device, rule[behind], later)
    return tuple([stage for stage in range(len(device)) if ahead_times[stage] == behind_times[stage]])


def rows_led(device, rule):
    """For each (stage, lane) a (delay, time) of each row that leads into it: a packet is led there so much later."""
    led = {}
    for delay, row in enumerate(rule):
        times = times_of(device, row, 0)
        for stage, lane in enumerate(row):
            led.setdefault((stage, lane), []).append((delay, times[stage]))
    return led


def pairs_led(service, led):
    """All pairs that can be and meet in one lane, into which these (delay, time) are led."""
    found = []
    for ahead, ahead_time in led:
        for behind, behind_time in led:
            pair = (ahead, behind, ahead_time - behind_time)
            if ahead_time >= behind_time and is_possible(service, pair):
                found.append(pair)
    return found


def clash_pairs(device, rule, service):
    """(x, y, d, stage) for all pairs that can be, and the stages at which they clash."""
    check_rule(device, rule)
    check_service(service)
    found = []
    led = rows_led(device, rule)
    for (stage, _), rows in led.items():
        found.extend([pair + (stage,) for pair in pairs_led(service, rows)])
    return tuple(sorted(found))


def serves(device, rule, service):
    """Whether no script at all has a clash."""
    return not clash_pairs(device, rule, service)


def shortest(service, found):
    """The first of these clashing pairs that needs the fewest slots."""
    slots = [fewest_slots(service, clash[:3]) for clash in found]
    return found[slots.index(min(slots))][:3]


def least_clash(device, rule, service):
    """A shortest script that has a clash; None if there is none."""
    found = clash_pairs(device, rule, service)
    if not found:
        return None
    return pair_script(service, len(rule) - 1, shortest(service, found))[0]


def has_clash(device, rule, rows):
    """Whether two packets clash, for the delays at each slot."""
    return len(clashes_among(all_led(ways_of(device, rule, packets_with(rows), 0)))) > 0


def shows_least_clash(device, rule, service, value):
    """Whether any value is what least_clash may return."""
    found = clash_pairs(device, rule, service)
    if not found:
        return value is None
    slots = fewest_slots(service, shortest(service, found))
    if not isinstance(value, tuple) or len(value) != slots:
        return False
    rows, _ = delays_standing(service, len(rule) - 1, value)
    return len(rows) == slots and has_clash(device, rule, rows)


def safe_size(device, rule, service):
    """The greatest size of a rule that has the first rows of this one and serves."""
    found = clash_pairs(device, rule, service)
    # Whether a pair can be does not hang on the size, as long as both its rows are there.
    return min([len(rule)] + [max(clash[0], clash[1]) for clash in found]) - 1

"""Devices, which are rows of lanes, and rules for them."""

from queueloops.errors import BadDevice, BadNumber, BadRow, BadRule, BadStages, LacksDelay
from queueloops.values import is_number, is_within, read_number

MOST_STAGES = 6
FEWEST_LANES = 2
MOST_LANES = 4
MOST_LENGTH = 1000000
MOST_RULE_SIZE = 400


class Device:
    """A device, by its text."""

    def __init__(self, text):
        self.stages = read_stages(text)
        self.text = text

    def __len__(self):
        return len(self.stages)

    def __eq__(self, other):
        return isinstance(other, Device) and self.text == other.text


def read_stages(text):
    """The stages that a text tells."""
    if not isinstance(text, str):
        raise BadDevice(0)
    stages = []
    for number, line in enumerate(text.split("\n"), start=1):
        lengths = read_lengths(line)
        if lengths is None or number > MOST_STAGES:
            raise BadDevice(number)
        stages.append(lengths)
    return tuple(stages)


def read_lengths(line):
    """The lengths that a line of a text tells; None if it is not as told."""
    words = line.split(" ")
    if words[0] != "stage":
        return None
    lengths = tuple([read_number(word) for word in words[1:]])
    return lengths if is_stage(lengths) else None


def is_stage(value):
    """Whether any value is the tuple of the lengths of a stage."""
    if not isinstance(value, tuple) or not FEWEST_LANES <= len(value) <= MOST_LANES:
        return False
    if not all([is_within(length, 0, MOST_LENGTH) for length in value]):
        return False
    return len(set(value)) == len(value)


def device_text(stages):
    """The text of the device with these stages."""
    if not isinstance(stages, tuple) or not 1 <= len(stages) <= MOST_STAGES:
        raise BadStages(stages)
    if not all([is_stage(lengths) for lengths in stages]):
        raise BadStages(stages)
    return "\n".join([" ".join(["stage"] + [str(length) for length in lengths]) for lengths in stages])


def rows_of(device):
    """All rows of the device, ascending."""
    rows = [()]
    for lengths in device.stages:
        rows = [row + (lane,) for row in rows for lane in range(len(lengths))]
    return tuple(rows)


def is_row(device, value):
    """Whether any value is a row of the device."""
    if not isinstance(value, tuple) or len(value) != len(device):
        return False
    return all([is_within(lane, 0, len(lengths) - 1) for lengths, lane in zip(device.stages, value)])


def delay_through(device, row):
    """The sum of the lengths of the lanes of a row."""
    return sum([lengths[lane] for lengths, lane in zip(device.stages, row)])


def row_delay(device, row):
    """The delay of a row."""
    if not is_row(device, row):
        raise BadRow(row)
    return delay_through(device, row)


def delays_of(device):
    """The delays of all rows, ascending, each once."""
    return tuple(sorted({delay_through(device, row) for row in rows_of(device)}))


def rows_for(device, delay):
    """All rows with this delay, ascending."""
    if not is_number(delay) or delay < 0:
        raise BadNumber(delay)
    return tuple([row for row in rows_of(device) if delay_through(device, row) == delay])


def is_rule(device, value):
    """Whether any value is a rule for the device."""
    if not isinstance(value, tuple) or not 1 <= len(value) <= MOST_RULE_SIZE + 1:
        return False
    return all([is_row(device, row) and delay_through(device, row) == delay for delay, row in enumerate(value)])


def check_rule(device, rule):
    """Raises BadRule for what is no rule for the device."""
    if not is_rule(device, rule):
        raise BadRule(rule)


def rows_by_delay(device, size):
    """A list with the ascending list of all rows with the delay x, for each x from 0 to the size."""
    if not is_within(size, 0, MOST_RULE_SIZE):
        raise BadNumber(size)
    rows = [[] for _ in range(size + 1)]
    for row in rows_of(device):
        delay = delay_through(device, row)
        if delay <= size:
            rows[delay].append(row)
    return rows


def least_rule(device, size):
    """The rule of this size with the least row for each delay."""
    rows = rows_by_delay(device, size)
    for delay, alike in enumerate(rows):
        if not alike:
            raise LacksDelay(delay)
    return tuple([alike[0] for alike in rows])


def rules_many(device, size):
    """How many rules of this size the device has."""
    many = 1
    for alike in rows_by_delay(device, size):
        many *= len(alike)
    return many

"""Rules by the figures of delays, at whatever sizes, and stages in another sequence."""

from queueloops.devices import Device, check_rule, device_text
from queueloops.errors import BadBases, BadNumber, BadOrder, TooGreat, TooMany
from queueloops.pairs import is_possible
from queueloops.services import check_service
from queueloops.values import is_order, is_within

MOST_BASES = 40
LEAST_BASE = 2
GREATEST_BASE = 4
MOST_BASES_OF_DEVICE = 6
GREATEST_REACH_OF_RULE = 401


def check_bases(bases):
    """Raises BadBases for what are no bases."""
    if not isinstance(bases, tuple) or not 1 <= len(bases) <= MOST_BASES:
        raise BadBases(bases)
    if not all([is_within(base, LEAST_BASE, GREATEST_BASE) for base in bases]):
        raise BadBases(bases)


def check_few_bases(bases):
    """Raises BadBases, and TooMany if there are more bases than a device has stages."""
    check_bases(bases)
    if len(bases) > MOST_BASES_OF_DEVICE:
        raise TooMany(MOST_BASES_OF_DEVICE)


def weights_of(bases):
    """The weight of each base, and the reach behind them."""
    weights = [1]
    for base in bases:
        weights.append(weights[-1] * base)
    return weights


def figures_with(bases, number):
    """The figures of a number below the reach."""
    figures = []
    for base in bases:
        number, figure = divmod(number, base)
        figures.append(figure)
    return tuple(figures)


def figures_device(bases):
    """The device by figures."""
    check_few_bases(bases)
    weights = weights_of(bases)
    stages = [tuple([lane * weight for lane in range(base)]) for base, weight in zip(bases, weights)]
    return Device(device_text(tuple(stages)))


def figures_of(bases, number):
    """The figures of a number, for each base."""
    check_bases(bases)
    if not is_within(number, 0, weights_of(bases)[-1] - 1):
        raise BadNumber(number)
    return figures_with(bases, number)


def figures_rule(bases):
    """The rule by figures."""
    check_few_bases(bases)
    reach = weights_of(bases)[-1]
    if reach > GREATEST_REACH_OF_RULE:
        raise TooGreat(reach)
    return tuple([figures_with(bases, number) for number in range(reach)])


def figures_serve(bases, service):
    """Whether by figures no script at all has a clash."""
    return figures_clash(bases, service) is None


def figures_clash(bases, service):
    """(x, y, d, stage) of a pair that can be and clashes by figures; None if there is none."""
    check_bases(bases)
    check_service(service)
    weights = weights_of(bases)
    for stage, weight in enumerate(weights[:-2]):
        # Two packets clash here if d is x % weight - y % weight, so at most weight - 1, and y + d - x a multiple of
        # the next weight. If any such pair can be, then this one, with the greatest d and the least multiple above 0.
        pair = (weight - 1, weights[stage + 1], weight - 1)
        if is_possible(service, pair):
            return pair + (stage,)
    return None


def moved_device(device, order):
    """The device with its stages in another sequence."""
    if not is_order(order, len(device)):
        raise BadOrder(order)
    return Device(device_text(tuple([device.stages[stage] for stage in order])))


def moved_rule(device, rule, order):
    """The rule whose rows have their parts moved as the stages are."""
    check_rule(device, rule)
    if not is_order(order, len(device)):
        raise BadOrder(order)
    return tuple([tuple([row[stage] for stage in order]) for row in rule])

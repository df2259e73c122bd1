"""Greatest sizes: how great a rule a device can have that serves a service.

A rule serves exactly if each two of its rows are clear of each other, that is, if no two packets
led by them clash. So a row is chosen for each delay, among those that are clear of all that are
chosen already.
"""

from queueloops.devices import is_rule, rows_by_delay, rows_of
from queueloops.errors import BadNumber, TooMany
from queueloops.runs import times_of
from queueloops.services import MOST_SIZE, check_service
from queueloops.tables import pairs_led, serves
from queueloops.values import is_number, is_within

MOST_ROWS = 64
MOST_DELAY = 16
MOST_RULES = 20000


def rows_in_reach(device, service):
    """The list of all rows, for each delay from 0 on that is below the least one that no row has."""
    check_service(service)
    if len(rows_of(device)) > MOST_ROWS:
        raise TooMany("rows")
    rows = rows_by_delay(device, MOST_DELAY)
    if all(rows):
        raise TooMany("delays")
    return rows[:rows.index([])]


def are_clear(device, service, one, other):
    """Whether no two packets clash that are led by these rows, each told as (delay, row, times)."""
    delay, row, times = one
    other_delay, other_row, other_times = other
    for stage in range(len(device)):
        led = [(delay, times[stage]), (other_delay, other_times[stage])]
        if row[stage] == other_row[stage] and pairs_led(service, led):
            return False
    return True


def clear_rows(device, service, rows):
    """For each of the rows, told by delays, the dict of all rows that are clear of it."""
    told = [(delay, row, times_of(device, row, 0)) for delay, alike in enumerate(rows) for row in alike]
    clear = {}
    for one in told:
        clear[one[1]] = {other[1]: True for other in told if are_clear(device, service, one, other)}
    return clear


def least_free(free):
    """The delay with the fewest rows that can be chosen for it: so a choice that leads nowhere is seen early."""
    return min([(len(rows), delay) for delay, rows in free.items()])[1]


def free_beside(free, delay, friends):
    """What can be chosen for the other delays, if a row with these friends is chosen for this one."""
    return {other: [row for row in rows if row in friends] for other, rows in free.items() if other != delay}


def chosen_rows(free, clear):
    """A dict with one of the free rows for each delay, all clear of each other; None if there is none."""
    if not free:
        return {}
    delay = least_free(free)
    for row in free[delay]:
        chosen = chosen_rows(free_beside(free, delay, clear[row]), clear)
        if chosen is not None:
            chosen[delay] = row
            return chosen
    return None


def choices_many(free, clear, most):
    """In how many ways chosen_rows can choose; something above most, if there are more."""
    if not free:
        return 1
    delay = least_free(free)
    many = 0
    for row in free[delay]:
        many += choices_many(free_beside(free, delay, clear[row]), clear, most - many)
        if many > most:
            break
    return many


def free_rows(rows, size):
    """A dict with the rows that can be chosen for each delay up to the size."""
    return {delay: rows[delay] for delay in range(size + 1)}


def greatest_rule(device, service):
    """The pair of the greatest size of a rule that serves, and such a rule."""
    rows = rows_in_reach(device, service)
    clear = clear_rows(device, service, rows)
    rule = ()
    for size in range(len(rows)):
        chosen = chosen_rows(free_rows(rows, size), clear)
        if chosen is None:
            break
        rule = tuple([chosen[delay] for delay in range(size + 1)])
    return len(rule) - 1, rule


def shows_greatest(device, service, value):
    """Whether any value is what greatest_rule may return."""
    greatest, _ = greatest_rule(device, service)
    if not isinstance(value, tuple) or len(value) != 2:
        return False
    size, rule = value
    if not is_number(size) or size != greatest:
        return False
    if size < 0:
        return rule == ()
    return is_rule(device, rule) and len(rule) == size + 1 and serves(device, rule, service)


def why_no_more(device, service):
    """Why no rule of a greater size serves."""
    size = greatest_rule(device, service)[0] + 1
    return ("lacks" if size == len(rows_in_reach(device, service)) else "gone through", size)


def serving_rules(device, service, size):
    """How many rules of this size serve."""
    rows = rows_in_reach(device, service)
    if not is_within(size, 0, MOST_SIZE):
        raise BadNumber(size)
    if size >= len(rows):
        return 0
    many = choices_many(free_rows(rows, size), clear_rows(device, service, rows), MOST_RULES)
    if many > MOST_RULES:
        raise TooMany("rules")
    return many

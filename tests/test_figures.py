import random
import unittest
from itertools import permutations, product

from plain import ALL_SERVICES, Checks, made_rule, nested, odd_values, plain_can_be, row_sum
from queueloops.devices import Device, delays_of, is_rule, rows_of
from queueloops.errors import BadBases, BadNumber, BadOrder, BadRule, BadService, TooGreat, TooMany
from queueloops.figures import (figures_clash, figures_device, figures_of, figures_rule, figures_serve, moved_device,
                                moved_rule)
from queueloops.pairs import can_be
from queueloops.tables import clash_pairs, meets, serves

BAD_BASES = odd_values() + [
    0, 2, (), (1,), (5,), (0,), (-2,), [2], [2, 3], (2, 1), (2, 5), (2, True), (True,), (2, None), (2, "2"), (2, 2.0),
    (2, (2,)), ((2, 3),), (2, [2]), (2,) * 41, (4,) * 100, {2: 2}, "22", (10 ** 39,), (2, nested(55, tuple)),
]
BAD_SERVICES = odd_values() + [("queue", 0), ("queue", 5), ("queue", True), ["queue", 2], ("line", 2), ("any",), 2]
SMALL = [bases for many in (1, 2, 3) for bases in product((2, 3, 4), repeat=many)]
DEVICE, RULE = Device("stage 0 1\nstage 0 2"), ((0, 0), (1, 0), (0, 1), (1, 1))
DEVICES = [Device(text) for text in ("stage 0 1 5", "stage 0 1\nstage 2 0", "stage 0 1\nstage 0 1 2\nstage 1 0",
                                     "stage 0 1 2 3\nstage 0 4\nstage 0 8 12\nstage 0 1")]


def product_of(bases):
    reach = 1
    for base in bases:
        reach *= base
    return reach


def can_stand(service, pair):
    """Whether a pair of great numbers can be, by what waits: told anew, from the words of the document."""
    word, most = service
    ahead, behind, later = pair
    if later == 0 and most == 1:
        return False
    if word == "any":
        return ahead != later + behind
    if ahead >= later + behind:
        return False
    # One leaves at each slot and at most so many come, from those that wait with the first packet on.
    return word == "order" or ahead + (most - 1) * (later + 1) >= behind and (most > 1 or ahead == 0)


class BasesTest(Checks):
    def test_bad_bases(self):
        for value in BAD_BASES:
            self.raises(BadBases, value, figures_device, value)
            self.raises(BadBases, value, figures_rule, value)
            for number in (0, None):
                self.raises(BadBases, value, figures_of, value, number)
            for service in (("queue", 2), None):
                self.raises(BadBases, value, figures_serve, value, service)
                self.raises(BadBases, value, figures_clash, value, service)

    def test_bad_services(self):
        for value in BAD_SERVICES:
            for bases in ((2,), (2, 3), (4,) * 40):
                self.raises(BadService, value, figures_serve, bases, value)
                self.raises(BadService, value, figures_clash, bases, value)

    def test_too_many_and_too_great(self):
        for many in (7, 8, 40):
            for base in (2, 3, 4):
                self.raises(TooMany, 6, figures_device, (base,) * many)
                self.raises(TooMany, 6, figures_rule, (base,) * many)
        for bases in ((3, 3, 3, 4, 4), (4, 4, 4, 4, 2), (4,) * 6, (3,) * 6, (2, 4, 4, 4, 4), (3, 4, 3, 4, 3, 4)):
            self.raises(TooGreat, product_of(bases), figures_rule, bases)
            self.assertEqual(len(figures_device(bases)), len(bases))
        for bases in ((2, 3, 4, 4, 4), (4, 4, 4, 3, 2), (2,) * 6, (3,) * 5, (4, 4, 4, 2, 3), (2, 2, 2, 3, 4, 4)):
            self.assertEqual(len(figures_rule(bases)), product_of(bases))
        # There are no bases with a reach from 385 to 401: the nearest ones are 384 and 432.
        reaches = sorted({product_of(bases) for many in range(1, 7) for bases in product((2, 3, 4), repeat=many)})
        self.assertEqual([reach for reach in reaches if 380 < reach < 450], [384, 432])

    def test_bad_numbers(self):
        for bases in ((2,), (2, 3, 2), (2, 3, 4, 4, 3, 2, 2), (2,) * 40, (4,) * 40):
            reach = product_of(bases)
            for value in odd_values() + [-1, reach, reach + 1, (0,), 0.0]:
                self.raises(BadNumber, value, figures_of, bases, value)

    def test_arguments_by_name(self):
        self.assertEqual(figures_device(bases=(2, 3)), Device("stage 0 1\nstage 0 2 4"))
        self.assertEqual(figures_rule(bases=(2,)), ((0,), (1,)))
        self.assertEqual(figures_of(number=9, bases=(2, 3, 2)), (1, 1, 1))
        self.assertIs(figures_serve(service=("queue", 3), bases=(2, 3)), False)
        self.assertEqual(figures_clash(service=("queue", 3), bases=(2, 3))[3], 0)
        self.assertEqual(moved_device(order=(1, 0), device=DEVICE), Device("stage 0 2\nstage 0 1"))
        self.assertEqual(moved_rule(order=(1, 0), rule=RULE, device=DEVICE), ((0, 0), (0, 1), (1, 0), (1, 1)))


class FiguresTest(Checks):
    def test_device(self):
        for bases in SMALL + [(2, 3, 4, 2, 3, 4), (4,) * 6, (3,) * 4]:
            device = figures_device(bases)
            self.assertIs(type(device), Device)
            self.assertEqual(len(device), len(bases))
            for stage, base in enumerate(bases):
                weight = product_of(bases[:stage])
                self.assertEqual(device.stages[stage], tuple(lane * weight for lane in range(base)))
            self.assertEqual(delays_of(device), tuple(range(product_of(bases))))

    def test_figures(self):
        for bases in SMALL + [(4, 3, 2, 2, 3, 2, 2)]:
            for number in range(product_of(bases)):
                figures = figures_of(bases, number)
                self.assertEqual(type(figures), tuple)
                self.assertEqual(figures, tuple(number // product_of(bases[:at]) % base for at, base in enumerate(bases)))

    def test_figures_of_great_numbers(self):
        choice = random.Random(51)
        for many in (10, 20, 39, 40):
            for bases in [(2,) * many, (3,) * many, (4,) * many, tuple(choice.choices((2, 3, 4), k=many))]:
                reach = product_of(bases)
                for number in [0, 1, reach - 1, reach // 2] + [choice.randrange(reach) for _ in range(9)]:
                    figures = figures_of(bases, number)
                    self.assertTrue(all(0 <= figure < base for figure, base in zip(figures, bases)))
                    self.assertEqual(sum(figure * product_of(bases[:at]) for at, figure in enumerate(figures)), number)
                    self.assertEqual(len(figures), many)
                self.assertEqual(figures_of(bases, reach - 1), tuple(base - 1 for base in bases))

    def test_rule(self):
        for bases in SMALL + [(2, 3, 4, 4, 4), (2,) * 6, (4, 4, 4, 4), (3,) * 5]:
            rule = figures_rule(bases)
            self.assertEqual(rule, tuple(figures_of(bases, number) for number in range(product_of(bases))))
            self.assertIs(is_rule(figures_device(bases), rule), True)
            self.assertEqual(len(rule), len(rows_of(figures_device(bases))))


class ServeTest(Checks):
    def check_clash(self, bases, service):
        """The told pair can be, and is led into one lane at one slot."""
        told = figures_clash(bases, service)
        self.assertIs(figures_serve(bases, service), told is None)
        if told is None:
            return
        self.assertEqual([type(part) for part in (told,) + told], [tuple, int, int, int, int])
        ahead, behind, later, stage = told
        self.assertTrue(max(ahead, behind) < product_of(bases) and min(told) >= 0 and stage < len(bases))
        self.assertTrue(can_stand(service, (ahead, behind, later)), (bases, service, told))
        weight = product_of(bases[:stage])
        self.assertEqual(ahead % weight, later + behind % weight)
        self.assertEqual(figures_of(bases, ahead)[stage], figures_of(bases, behind)[stage])

    def test_beside_the_tables(self):
        for bases in SMALL + [(2, 2, 2, 2), (4, 3, 2, 2), (3, 3, 2, 3), (2, 4, 2, 2), (2,) * 5, (3, 2, 2, 2, 2)]:
            device, rule = figures_device(bases), figures_rule(bases)
            for service in ALL_SERVICES:
                self.assertIs(figures_serve(bases, service), serves(device, rule, service), (bases, service))
                self.check_clash(bases, service)
                told = figures_clash(bases, service)
                if told is not None:
                    self.assertIn(told, clash_pairs(device, rule, service))
                    self.assertIs(can_be(service, len(rule) - 1, told[:3]), True)
                    self.assertIn(told[3], meets(device, rule, told[:3]))

    def test_beside_all_pairs(self):
        for bases in [bases for bases in SMALL + [(2, 2, 2, 2)] if product_of(bases) <= 18]:
            reach = product_of(bases)
            for service in ALL_SERVICES:
                found = []
                for ahead, behind, stage in product(range(reach), range(reach), range(len(bases))):
                    weight = product_of(bases[:stage])
                    later = ahead % weight - behind % weight
                    if later >= 0 and ahead // weight % bases[stage] == behind // weight % bases[stage]:
                        if plain_can_be(service, reach - 1, (ahead, behind, later)):
                            found.append((ahead, behind, later, stage))
                self.assertIs(figures_serve(bases, service), not found, (bases, service))
                told = figures_clash(bases, service)
                self.assertTrue(told in found if found else told is None)

    def test_up_to_forty_bases(self):
        choice = random.Random(52)
        made = [(base,) * many for base in (2, 3, 4) for many in (1, 2, 3, 7, 39, 40)]
        made += [tuple(choice.choices((2, 3, 4), k=choice.randint(1, 40))) for _ in range(60)]
        made += [(4,) * 39 + (2,), (2,) + (4,) * 39, (4,) * 20 + (3,) + (4,) * 19, (4,) * 38 + (3, 2), (3,) * 39 + (2,)]
        for bases in made:
            for word, most in ALL_SERVICES:
                self.check_clash(bases, (word, most))
                if word == "queue":
                    expected = all(base >= most for base in bases[:-1])
                else:
                    expected = len(bases) == 1 or len(bases) == 2 and most == 1
                self.assertIs(figures_serve(bases, (word, most)), expected, (bases, word, most))

    def test_great_bases_are_as_bad_as_their_worst(self):
        """Beside going through the stages of many bases: what clashes with few bases ahead clashes with more behind."""
        choice = random.Random(53)
        for _ in range(60):
            bases = tuple(choice.choices((2, 3, 4), k=choice.randint(2, 4)))
            more = bases + tuple(choice.choices((2, 3, 4), k=choice.randint(1, 36)))
            for service in ALL_SERVICES:
                self.assertLessEqual(figures_serve(more, service), figures_serve(bases, service))

    def test_for_all(self):
        choice = random.Random(54)
        for many in range(1, 41):
            for bases in [(2,) * many, (3,) * many, (4,) * many, tuple(choice.choices((2, 3, 4), k=many))]:
                for most in range(1, min(bases) + 1):
                    self.assertIs(figures_serve(bases, ("queue", most)), True)
                    self.assertIsNone(figures_clash(bases, ("queue", most)))

    def test_rules_have_no_more_rows_than_there_are_tuples_of_lanes(self):
        for bases in SMALL:
            self.assertEqual(len(figures_rule(bases)), len(rows_of(figures_device(bases))))
        choice = random.Random(55)
        for device in DEVICES:
            self.assertLessEqual(len(made_rule(choice, device, 400)), len(rows_of(device)))

    def test_calls_are_alike(self):
        for bases in SMALL:
            for service in ALL_SERVICES:
                self.assertEqual(figures_clash(bases, service), figures_clash(tuple(list(bases)), service))
            self.assertEqual(figures_device(bases), figures_device(tuple(list(bases))))


class MovedTest(Checks):
    def test_part_by_part(self):
        choice = random.Random(56)
        for device in DEVICES:
            for order in permutations(range(len(device))):
                moved = moved_device(device, order)
                self.assertIs(type(moved), Device)
                self.assertEqual([moved.stages[at] for at in range(len(order))], [device.stages[at] for at in order])
                rule = made_rule(choice, device, 20)
                told = moved_rule(device, rule, order)
                self.assertEqual(told, tuple(tuple(row[at] for at in order) for row in rule))
                self.assertEqual({type(part) for part in (told,) + told}, {tuple})
                self.assertIs(is_rule(moved, told), True)
                self.assertEqual([row_sum(moved, row) for row in told], list(range(len(rule))))

    def test_three_stages(self):
        device = Device("stage 0 1\nstage 0 2 4\nstage 0 6 12 18")
        self.assertEqual(moved_device(device, (2, 0, 1)).text, "stage 0 6 12 18\nstage 0 1\nstage 0 2 4")
        rule = figures_rule((2, 3))
        rule = tuple(row + (0,) for row in rule) + ((0, 0, 1), (1, 0, 1))
        self.assertEqual(moved_rule(device, rule, (2, 0, 1))[3:], ((0, 1, 1), (0, 0, 2), (0, 1, 2), (1, 0, 0), (1, 1, 0)))
        self.assertEqual(moved_device(device, (0, 1, 2)), device)
        self.assertEqual(moved_rule(device, rule, (0, 1, 2)), rule)

    def test_bad_orders(self):
        values = odd_values() + [0, (), (0,), (1,), (0, 0), (1, 1), (0, 2), (1, 2), (0, 1, 2), (-1, 0), (0, 1, 1),
                                 [0, 1], [1, 0], (False, True), (0, True), (False, 1), (True, 0), (0, None), (0, "1"),
                                 (0, (1,)), ((0, 1),), (0, 1.0), "01", {0: 0, 1: 1}, (0, 10 ** 39), (0, nested(50, list))]
        for value in values:
            self.raises(BadOrder, value, moved_device, DEVICE, value)
            self.raises(BadOrder, value, moved_rule, DEVICE, RULE, value)

    def test_bad_rules(self):
        values = odd_values() + [0, (), ((0, 0), (0, 1)), ((1, 0),), ((0,),), [(0, 0)], ([0, 0],), ((0, False),),
                                 ((0, 0), (True, 0)), ((0, 0), None), ((0, 0),) * 402]
        for value in values:
            for order in ((1, 0), None, (0, 0)):
                self.raises(BadRule, value, moved_rule, DEVICE, value, order)

    def test_exchanged_stages_serve_otherwise(self):
        for most in (1, 2, 3, 4):
            self.assertIs(serves(moved_device(DEVICE, (1, 0)), moved_rule(DEVICE, RULE, (1, 0)), ("queue", most)),
                          most == 1)

    def test_arguments_are_not_changed(self):
        kept = repr((DEVICE.text, DEVICE.stages, RULE))
        moved_device(DEVICE, (1, 0))
        moved_rule(DEVICE, RULE, (1, 0))
        self.assertEqual(repr((DEVICE.text, DEVICE.stages, RULE)), kept)


if __name__ == "__main__":
    unittest.main()

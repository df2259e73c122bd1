"""The examples of the document, as they stand there."""

import doctest
import unittest

EXAMPLES = {}

EXAMPLES["devices"] = r"""
>>> from queueloops.devices import delays_of, Device, device_text, is_rule, least_rule, row_delay, rows_for, rows_of, rules_many
>>> device = Device('stage 0 1\nstage 2 0\nstage 0 1')
>>> [device.stages, len(device), device_text(((0, 5), (3, 1, 2)))]
[((0, 1), (2, 0), (0, 1)), 3, 'stage 0 5\nstage 3 1 2']
>>> [rows_of(device)[:3], len(rows_of(device)), row_delay(device, (1, 0, 1)), delays_of(device)]
[((0, 0, 0), (0, 0, 1), (0, 1, 0)), 8, 4, (0, 1, 2, 3, 4)]
>>> [rows_for(device, 1), rows_for(device, 9), least_rule(device, 2)]
[((0, 1, 1), (1, 1, 0)), (), ((0, 1, 0), (0, 1, 1), (0, 0, 0))]
>>> [is_rule(device, ((0, 1, 0), (1, 1, 0))), is_rule(device, ((0, 1, 1),)), is_rule(device, ()), rules_many(device, 4), rules_many(device, 5)]
[True, False, False, 8, 0]
"""

EXAMPLES["services"] = r"""
>>> from queueloops.services import fits, is_service, leaves_of, led_on, packets_of, scripts_many, waiting
>>> [is_service(('queue', 2)), is_service(('queue', 5)), is_service(['any', 1])]
[True, False, False]
>>> [packets_of(('queue', 2), 3, (2, 2, 0, 1)), leaves_of(('queue', 2), 3, (2, 2, 0, 1))]
[((0, 0), (0, 1), (1, 1), (1, 2), (3, 1)), ((0, 0), (1, 1), (2, 2), (3, 3), (4, 4))]
>>> [packets_of(('any', 2), 3, ((3,), (0, 1))), leaves_of(('any', 2), 3, ((3,), (0, 1)))]
[((0, 3), (1, 0), (1, 1)), ((1, 1), (2, 2), (3, 0))]
>>> [fits(('queue', 3), 3, (3, 2)), fits(('order', 1), 3, ((3,), ())), fits(('any', 1), 3, ((3,), ()))]
[1, (2, 3), (0, 2, 3)]
>>> [led_on(('order', 2), 4, ((1,),), (1, 3)), waiting((2, 0, 3, 1, 0)), waiting(())]
[((1,), (1, 3)), (1, 0, 2, 2, 1), ()]
>>> [scripts_many(('queue', 2), 1, 3), scripts_many(('order', 1), 1, 2), scripts_many(('any', 2), 1, 1)]
[21, 8, 5]
"""

EXAMPLES["runs"] = r"""
>>> from queueloops.devices import Device
>>> from queueloops.runs import clashes_of, lanes_at, routes, Run
>>> device, rule = Device('stage 0 1\nstage 0 2'), ((0, 0), (1, 0), (0, 1), (1, 1))
>>> [routes(device, rule, ('queue', 2), (2, 2, 1)), clashes_of(device, rule, ('queue', 2), (2, 2, 1))]
[((0, 0), (0, 1), (1, 2), (1, 1), (2, 2)), ()]
>>> lanes_at(device, rule, ('queue', 2), (2, 2, 1), 2)
(((), ((2, 0),)), ((), ((3, 1),)))
>>> clashes_of(device, rule, ('any', 2), ((0, 2), (), (1,)))
((0, 0, 0, 0, 1),)
>>> run = Run(device, rule, ('queue', 2))
>>> [run.go_on(2), run.go_on(2), run.slot, run.lanes]
[(((0, 0, 0), (0, 1, 1), (1, 0, 0)), (0,), ()), (((0, 0, 3), (0, 1, 2), (1, 0, 1), (1, 1, 3)), (1,), ()), 2, (((), ((2, 0),)), ((), ((3, 1),)))]
>>> [run.go_on(0), run.go_on(0), run.script]
[(((1, 0, 2),), (2,), ()), ((), (3,), ()), (2, 2, 0, 0)]
"""

EXAMPLES["tables"] = r"""
>>> from queueloops.devices import Device
>>> from queueloops.pairs import can_be, pair_script
>>> from queueloops.tables import clash_pairs, least_clash, meets, safe_size, serves
>>> two = ('queue', 2)
>>> [can_be(two, 5, pair) for pair in ((2, 4, 1), (2, 5, 1), (3, 1, 1), (0, 0, 1), (1, 2, 0), (2, 1, 0))]
[True, False, False, True, True, False]
>>> [can_be(('queue', 1), 5, (1, 1, 1)), can_be(('order', 1), 5, (1, 4, 0)), can_be(('any', 1), 5, (4, 1, 1)), can_be(('any', 2), 5, (4, 1, 3))]
[False, False, True, False]
>>> pair_script(two, 5, (2, 4, 1))
((2, 2, 2, 2), 4, 7)
>>> device, rule = Device('stage 0 1\nstage 0 2'), ((0, 0), (1, 0), (0, 1), (1, 1))
>>> [meets(device, rule, (1, 2, 1)), meets(device, rule, (0, 2, 0)), meets(device, rule, (3, 3, 2))]
[(1,), (0, 1), ()]
>>> [serves(device, rule, two), clash_pairs(device, rule, ('queue', 3)), least_clash(device, rule, ('queue', 3)), safe_size(device, rule, ('queue', 3))]
[True, ((0, 2, 0, 0), (1, 3, 0, 0)), (3,), 1]
>>> [clash_pairs(device, rule, ('any', 2)), serves(device, rule, ('any', 1)), safe_size(device, rule, two)]
[((0, 2, 0, 0), (1, 3, 0, 0), (2, 0, 0, 0), (3, 1, 0, 0)), True, 3]
"""

EXAMPLES["figures"] = r"""
>>> from queueloops.devices import Device
>>> from queueloops.figures import figures_clash, figures_device, figures_of, figures_rule, figures_serve, moved_device, moved_rule
>>> from queueloops.tables import serves
>>> [figures_device((2, 3)).text, figures_rule((2, 3)), figures_of((2, 3, 2), 9)]
['stage 0 1\nstage 0 2 4', ((0, 0), (1, 0), (0, 1), (1, 1), (0, 2), (1, 2)), (1, 1, 1)]
>>> [figures_serve((3, 2), ('queue', 3)), figures_serve((2, 3), ('queue', 3)), figures_serve((2,) * 40, ('queue', 2))]
[True, False, True]
>>> [figures_serve((4,), ('any', 4)), figures_clash((4,), ('any', 4)), len(figures_clash((2, 3), ('queue', 3)))]
[True, None, 4]
>>> device, rule = Device('stage 0 1\nstage 0 2'), ((0, 0), (1, 0), (0, 1), (1, 1))
>>> [moved_device(device, (1, 0)).text, moved_rule(device, rule, (1, 0))]
['stage 0 2\nstage 0 1', ((0, 0), (0, 1), (1, 0), (1, 1))]
>>> [serves(device, rule, ('queue', 2)), serves(moved_device(device, (1, 0)), moved_rule(device, rule, (1, 0)), ('queue', 2))]
[True, False]
"""

EXAMPLES["sizes"] = r"""
>>> from queueloops.devices import Device
>>> from queueloops.sizes import greatest_rule, serving_rules, shows_greatest, why_no_more
>>> device, alike = Device('stage 0 1\nstage 0 2'), Device('stage 0 1\nstage 0 1')
>>> [greatest_rule(device, ('queue', n)) for n in (2, 3)]
[(3, ((0, 0), (1, 0), (0, 1), (1, 1))), (1, ((0, 0), (1, 0)))]
>>> [why_no_more(device, ('queue', n)) for n in (2, 3)]
[('lacks', 4), ('gone through', 2)]
>>> [greatest_rule(alike, ('queue', 2)), why_no_more(alike, ('queue', 2))]
[(1, ((0, 0), (1, 0))), ('gone through', 2)]
>>> [shows_greatest(alike, ('queue', 2), (1, rule)) for rule in (((0, 0), (0, 1)), ((0, 0), (1, 0)))]
[False, True]
>>> [serving_rules(device, ('queue', 2), size) for size in (0, 3, 4)], [serving_rules(alike, ('queue', 2), size) for size in (1, 2)]
([1, 1, 0], [1, 0])
"""

EXAMPLES["likes"] = r"""
>>> from queueloops.devices import Device
>>> from queueloops.likes import alike, lane_out, rule_with_lanes, shows_alike, turned, turned_rule, unused_lanes, with_lanes
>>> device, rule = Device('stage 0 1\nstage 0 2'), ((0, 0), (1, 0), (0, 1), (1, 1))
>>> [turned(device).text, turned_rule(device, rule)]
['stage 0 2\nstage 0 1', ((0, 0), (0, 1), (1, 0), (1, 1))]
>>> [with_lanes(device, 1, (1, 0)).text, rule_with_lanes(device, rule, 1, (1, 0))]
['stage 0 1\nstage 2 0', ((0, 1), (1, 1), (0, 0), (1, 0))]
>>> wide = Device('stage 0 9 1\nstage 0 2')
>>> unused_lanes(wide, ((0, 0), (2, 0), (0, 1), (2, 1)))
((0, 1),)
>>> less = lane_out(wide, ((0, 0), (2, 0), (0, 1), (2, 1)), 0, 1)
>>> [less[0] == device, less[1] == rule]
[True, True]
>>> [alike(device, rule, turned(device), turned_rule(device, rule), ('order', 1)), alike(device, rule, device, rule, ('any', 4))]
[('alike',), ('alike',)]
>>> alike(device, rule, turned(device), turned_rule(device, rule), ('order', 2))[0]
'parts'
>>> back = (turned(device), turned_rule(device, rule))
>>> [shows_alike(device, rule, *back, ('order', 2), ('parts', ((0, 2),), word)) for word in ('one', 'other')]
[True, False]
"""

EXAMPLES["far"] = r"""
>>> from queueloops.far import came_by, delay_at, first_above, lap_goes, leaves_at, left_by, most_delay, packet_at, waits_at
>>> first, again = (3, 2), (0, 1, 0)
>>> [[waits_at(first, again, slot) for slot in range(9)], lap_goes(first, again), most_delay(first, again)]
[[0, 2, 3, 2, 2, 1, 0, 0, 0], ('round', 2, 0), 3]
>>> [delay_at(first, again, 1, 1), packet_at(first, again, 5), [leaves_at(first, again, slot) for slot in (0, 4, 5, 6, 7)]]
[3, (3, 0, 2), [0, 4, 5, 6, None]]
>>> [first_above(first, again, 2), first_above(first, again, 3), came_by(first, again, 6), left_by(first, again, 6)]
[(1, 1), None, 6, 6]
>>> [lap_goes((), (2,)), waits_at((), (2,), 10 ** 18), first_above((), (2,), 10), first_above((), (3, 0), 10 ** 18)]
[('grows', 0, 1), 1000000000000000000, (10, 1), (1999999999999999998, 2)]
>>> [lap_goes((4,), (1,)), most_delay((4,), (1,)), lap_goes((), (0,)), most_delay((), (0,))]
[('round', 0, 3), 3, ('round', 0, 0), -1]
"""

EXAMPLES["desk"] = r"""
>>> from queueloops.desk import Desk, desk_text, read_desk
>>> desk = Desk()
>>> [desk.lead(('device', 'd', 'stage 0 1\nstage 0 2')), desk.lead(('least', 'r', 'd', 3)), desk.lead(('run', 'q', 'r', ('queue', 2)))]
[None, None, None]
>>> [desk.lead(('slots', 'q', (2, 2))), desk.note('two'), desk.lead(('copy', 'q', 'p')), desk.lead(('slots', 'p', (0,)))]
[None, None, None, None]
>>> [desk.names, desk.thing_of('q').slot, desk.thing_of('p').script, desk.thing_kind('r'), desk.does_serve('r', ('queue', 3))]
[('d', 'p', 'q', 'r'), 2, (2, 2, 0), 'rule', False]
>>> [desk.back('two'), desk.names, desk.all_deeds()[1]]
[None, ('d', 'q', 'r'), (('copy', 'q', 'p'), ('slots', 'p', (0,)))]
>>> desk_text(desk).split('\n')
['stand 4', 'note two 4', 'device d 2', 'stage 0 1', 'stage 0 2', 'least r d 3', 'run q r queue 2', 'slots q 2 2', 'copy q p', 'slots p 0']
>>> other = read_desk('stand 3\ndevice d 1\nstage 0 1\nrule r d 0 1\nrun o r any 2\nslots o -1,0 - -1')
>>> [other.redo(), other.thing_of('o').script, desk_text(read_desk(desk_text(desk))) == desk_text(desk)]
[None, ((1, 0), (), (1,)), True]
"""


class ExamplesTest(unittest.TestCase):
    def test_examples(self):
        for name, text in EXAMPLES.items():
            with self.subTest(name=name):
                told = []
                parsed = doctest.DocTestParser().get_doctest(text, {}, name, None, 0)
                ended = doctest.DocTestRunner(verbose=False).run(parsed, out=told.append)
                self.assertGreater(ended.attempted, 4)
                self.assertEqual(ended.failed, 0, "".join(told))


if __name__ == "__main__":
    unittest.main()

import random
import unittest

from plain import (ALL_SERVICES, Checks, all_scripts, going, made_rule, made_script, nested, odd_values, plain_clashes,
                   plain_packets)
from queueloops.devices import Device
from queueloops.errors import BadNumber, BadRule, BadScript, BadService, BadSlot
from queueloops.runs import Run, clashes_of, lanes_at, routes

DEVICE, RULE, TWO = Device("stage 0 1\nstage 0 2"), ((0, 0), (1, 0), (0, 1), (1, 1)), ("queue", 2)
# Lanes of the length 0 stand first, last and between; several are one behind the other in one row.
DEVICES = [Device(text) for text in (
    "stage 0 1",
    "stage 1 0 2\nstage 3 0",
    "stage 0 1\nstage 0 2",
    "stage 0 2\nstage 0 1",
    "stage 0 1\nstage 2 0\nstage 0 1",
    "stage 0 1\nstage 0 1\nstage 0 1\nstage 0 1",
    "stage 0 1 2 3\nstage 0 4 8 12",
    "stage 0 4\nstage 0 2 1\nstage 1000000 0 1\nstage 0 8",
    "\n".join(["stage 0 1 2 3"] * 6),
)]
BAD_RULES = odd_values() + [
    0, (), ((0, 0), (0, 1)), ((1, 0),), ((0, 0), (1, 0), (0, 1), (1, 1), (1, 1)), ((0,),), ((0, 0, 0),), ((0, 2),),
    ((0, -1),), ((0, 0), (1, 0), (0, 1), [1, 1]), [(0, 0), (1, 0)], ([0, 0],), ((0, False),), ((0, 0), (True, 0)),
    ((0, 0), (1, 0), None), ((0, 0), 1), ({0: 0},), (((0, 0), (1, 0)),), ((0, 0), (1, (0,))), ((0, "0"),), "00",
    (nested(55, tuple),), ((0, 0),) * 402,
]
BAD_SERVICES = odd_values() + [("queue", 0), ("queue", 5), ("queue", True), ["queue", 2], ("line", 2), ("any",), 2]
BAD_SLOTS = [value for value in odd_values()] + [-1, 3, 10 ** 39, 1.5, (0, 1), (1,), ()]


def cases(seed, many, slots):
    """(device, rule, service, script) of many kinds."""
    choice = random.Random(seed)
    for device in DEVICES:
        for service in ALL_SERVICES:
            for _ in range(many):
                rule = made_rule(choice, device, choice.choice((0, 1, 2, 3, 9, 30)))
                if rule:
                    yield device, rule, service, made_script(choice, service, len(rule) - 1, choice.randint(0, slots))


class ErrorsTest(Checks):
    def functions(self):
        return [(routes, ()), (clashes_of, ()), (lanes_at, (0,)), (lanes_at, (None,)), (lanes_at, (-1,))]

    def test_bad_rules(self):
        for rule in BAD_RULES:
            for function, rest in self.functions():
                self.raises(BadRule, rule, function, DEVICE, rule, TWO, (), *rest)
                self.raises(BadRule, rule, function, DEVICE, rule, None, None, *rest)
            self.raises(BadRule, rule, Run, DEVICE, rule, TWO)
            self.raises(BadRule, rule, Run, DEVICE, rule, None)

    def test_rules_of_other_devices(self):
        other = Device("stage 0 2\nstage 0 1")
        self.raises(BadRule, RULE, routes, other, RULE, TWO, ())
        self.raises(BadRule, RULE, Run, Device("stage 0 1"), RULE, TWO)

    def test_bad_services(self):
        for service in BAD_SERVICES:
            for function, rest in self.functions():
                self.raises(BadService, service, function, DEVICE, RULE, service, (), *rest)
                self.raises(BadService, service, function, DEVICE, RULE, service, None, *rest)
            self.raises(BadService, service, Run, DEVICE, RULE, service)

    def test_bad_scripts(self):
        for function, rest in self.functions():
            for script in [value for value in odd_values() if type(value) is not tuple] + [0, [0], (0,) * 1001]:
                self.raises(BadScript, None, function, DEVICE, RULE, TWO, script, *rest)
            for slot in BAD_SLOTS:
                self.raises(BadScript, 1, function, DEVICE, RULE, TWO, (2, slot, None), *rest)
            for service in (("order", 2), ("any", 2)):
                for slot in (0, None, [0], (True,), (0, 1, 2), (-1,), (0, 4), (0, (1,)), (0, 0), nested(50, tuple)):
                    self.raises(BadScript, 2, function, DEVICE, RULE, service, ((), (0,), slot), *rest)

    def test_size_of_the_script_is_that_of_the_rule(self):
        for size in range(4):
            rule = RULE[:size + 1]
            for function, rest in ((routes, ()), (clashes_of, ()), (lanes_at, (0,))):
                function(DEVICE, rule, ("any", 1), ((size,),), *rest)
                self.raises(BadScript, 0, function, DEVICE, rule, ("any", 1), ((size + 1,),), *rest)
                function(DEVICE, rule, ("queue", 4), (size + 1,), *rest)
                if size < 3:
                    self.raises(BadScript, 0, function, DEVICE, rule, ("queue", 4), (size + 2,), *rest)

    def test_bad_numbers_of_slots(self):
        for slot in odd_values() + [-1, 1000001, 10 ** 39, (0,), 0.0]:
            self.raises(BadNumber, slot, lanes_at, DEVICE, RULE, TWO, (2, 2), slot)

    def test_thousand_slots(self):
        script = (0,) * 999 + (2,)
        self.assertEqual(routes(DEVICE, RULE, TWO, script), ((999, 999), (999, 1000)))
        self.assertEqual(clashes_of(DEVICE, RULE, TWO, script), ())
        self.assertEqual(lanes_at(DEVICE, RULE, TWO, script, 1000), (((), ((1, 0),)), ((), ())))

    def test_arguments_by_name(self):
        told = {"script": (3,), "service": ("queue", 3), "rule": RULE, "device": DEVICE}
        self.assertEqual(routes(**told), ((0, 0), (0, 1), (0, 0)))
        self.assertEqual(clashes_of(**told), ((0, 0, 0, 0, 2),))
        self.assertEqual(lanes_at(slot=1, **told), (((), ((1, 0),)), ((), ((2, 1),))))
        run = Run(service=("queue", 3), rule=RULE, device=DEVICE)
        self.assertEqual(run.go_on(who=3)[2], ((0, 0, 0, 2),))


class GoingTest(Checks):
    """The package beside a plain going, slot by slot."""

    def check(self, device, rule, service, script):
        packets = plain_packets(service, len(rule) - 1, script)
        slots = len(script) + len(rule) + 1
        told = going(device, rule, packets, slots)
        led = [(slot, stage, packet) for slot, row in enumerate(told) for stage, _, packet in row[0]]
        self.assertEqual(routes(device, rule, service, script),
                         tuple(tuple(slot for slot, stage, who in sorted(led) if who == packet)
                               for packet in range(len(packets))))
        clashes = clashes_of(device, rule, service, script)
        self.assertEqual(clashes, plain_clashes(device, rule, packets))
        self.assertEqual(clashes, tuple(sorted(set(clashes))))
        for slot, row in enumerate(told):
            self.assertEqual(lanes_at(device, rule, service, script, slot), row[3])
        self.check_run(device, rule, service, script, told)

    def check_run(self, device, rule, service, script, told):
        """A run that goes on until all packets are out."""
        run = Run(device, rule, service)
        nothing = 0 if service[0] == "queue" else ()
        whos = script + (nothing,) * (len(told) - len(script))
        for slot, (led, out, clashes, lanes) in enumerate(told):
            self.assertEqual([run.slot, run.script, run.lanes], [slot, whos[:slot], lanes])
            self.assertEqual(run.go_on(whos[slot]), (led, out, clashes))
        self.assertEqual(run.lanes, tuple(tuple(() for _ in lengths) for lengths in device.stages))

    def test_all_short_scripts(self):
        for device in DEVICES[:4]:
            rule = made_rule(random.Random(len(device.text)), device, 2)
            for service in ALL_SERVICES[:6] + ALL_SERVICES[8:10]:
                for script in all_scripts(service, len(rule) - 1, 2):
                    self.check(device, rule, service, script)

    def test_made_scripts(self):
        many = 0
        for case in cases(5, 5, 14):
            self.check(*case)
            many += len(clashes_of(*case))
        self.assertGreater(many, 300)

    def test_long_made_scripts(self):
        for case in cases(6, 1, 60):
            self.check(*case)

    def test_three_in_one_lane_are_three_clashes(self):
        # They come at three slots, and all to stage 1 at slot 2.
        device, rule = Device("stage 0 1 2\nstage 0 9\nstage 0 1 2"), ((0, 0, 0), (0, 0, 1), (2, 0, 0), (1, 0, 2))
        self.assertEqual(clashes_of(device, rule, ("any", 1), ((2,), (3,), (1,))), (
            (2, 1, 0, 0, 1), (2, 1, 0, 0, 2), (2, 1, 0, 1, 2)))
        # They come at one slot; one of them is led into another lane of stage 1.
        device, rule = Device("stage 0 1\nstage 0 1\nstage 0 2"), ((0, 0, 0), (0, 1, 0), (0, 0, 1))
        self.assertEqual(clashes_of(device, rule, ("any", 3), ((0, 1, 2),)), (
            (0, 0, 0, 0, 1), (0, 0, 0, 0, 2), (0, 0, 0, 1, 2), (0, 1, 0, 0, 2)))

    def test_lanes_far_behind_the_last_packet(self):
        for device, rule, service, script in cases(7, 1, 9):
            nothing = tuple(tuple(() for _ in lengths) for lengths in device.stages)
            for slot in (len(script) + len(rule), 1000, 999999, 1000000):
                self.assertEqual(lanes_at(device, rule, service, script, slot), nothing)
            self.assertEqual(lanes_at(device, rule, service, script, 0), nothing)

    def test_all_lanes_of_length_0(self):
        device = Device("\n".join(["stage 0 1"] * 6))
        run = Run(device, ((0,) * 6,), ("queue", 4))
        self.assertEqual(routes(device, ((0,) * 6,), ("queue", 1), (1, 1)), ((0,) * 6, (1,) * 6))
        for slot in range(3):
            self.assertEqual(run.go_on(1), (tuple((stage, 0, slot) for stage in range(6)), (slot,), ()))
            self.assertEqual(run.lanes, (((), ()),) * 6)

    def test_for_all(self):
        for device, rule, service, script in cases(8, 3, 20):
            packets = plain_packets(service, len(rule) - 1, script)
            told = routes(device, rule, service, script)
            outs = []
            for (slot, delay), route in zip(packets, told):
                outs.append(route[-1] + device.stages[-1][rule[delay][-1]])
                self.assertEqual([route[0], outs[-1]], [slot, slot + delay])
            self.assertEqual(len(set(outs)), len(outs))
            if not clashes_of(device, rule, service, script):
                for slot in range(len(script) + len(rule)):
                    for lengths, lanes in zip(device.stages, lanes_at(device, rule, service, script, slot)):
                        for length, held in zip(lengths, lanes):
                            self.assertLessEqual(len(held), length)

    def test_kinds_of_what_is_told(self):
        told = routes(DEVICE, RULE, TWO, (2, 2))
        self.assertEqual({type(part) for part in (told,) + told}, {tuple})
        told = lanes_at(DEVICE, RULE, TWO, (2, 2), 2)
        parts = [told] + list(told) + [lane for stage in told for lane in stage]
        self.assertEqual({type(part) for part in parts}, {tuple})
        self.assertEqual(type(clashes_of(DEVICE, RULE, TWO, (2, 2))), tuple)
        run = Run(DEVICE, RULE, ("any", 2))
        self.assertEqual([run.slot, run.script, run.lanes], [0, (), (((), ()), ((), ()))])
        told = run.go_on((0, 2))
        self.assertEqual(told, (((0, 0, 0), (0, 0, 1), (1, 0, 0), (1, 1, 1)), (0,), ((0, 0, 0, 1),)))
        self.assertEqual({type(part) for part in (told,) + told}, {tuple})

    def test_arguments_are_not_changed_and_calls_are_alike(self):
        for case in cases(9, 1, 12):
            ahead = repr(case[1:])
            self.assertEqual(routes(*case), routes(*case))
            self.assertEqual(clashes_of(*case), clashes_of(*case))
            self.assertEqual(lanes_at(*case, 3), lanes_at(*case, 3))
            alike = (Device(case[0].text),) + case[1:]
            self.assertEqual(clashes_of(*alike), clashes_of(*case))
            self.assertEqual(repr(case[1:]), ahead)


class RunTest(Checks):
    def stands(self, run):
        return run.slot, run.script, run.lanes

    def test_attributes_are_set_on_the_object(self):
        for name in ("slot", "script", "lanes"):
            self.assertIn(name, vars(Run(DEVICE, RULE, TWO)))

    def test_refused_slots_change_nothing(self):
        choice = random.Random(10)
        for device, rule, service, script in cases(11, 1, 12):
            run, other = Run(device, rule, service), Run(device, rule, service)
            size = len(rule) - 1
            for slot, who in enumerate(script):
                bad = odd_values() + [-1, 5, (0,) * 5, (size + 1,), [0], (True,), ((0,),), (0, None), (size, size)]
                bad = [who for who in bad if type(plain_packets(service, size, script[:slot] + (who,))) is int]
                for value in choice.sample(bad, 4) + [True, [who], size + 2 if service[0] == "queue" else (size + 1,)]:
                    self.raises(BadSlot, value, run.go_on, value)
                    self.assertEqual(self.stands(run), self.stands(other))
                self.assertEqual(run.go_on(who), other.go_on(who))
                self.assertEqual(self.stands(run), self.stands(other))

    def test_what_cannot_stand_behind_what_came(self):
        run = Run(DEVICE, RULE, ("queue", 3))
        run.go_on(3)
        self.raises(BadSlot, 3, run.go_on, 3)
        run.go_on(2)
        self.raises(BadSlot, 2, run.go_on, 2)
        self.assertEqual(run.go_on(1)[1], (2,))
        run = Run(DEVICE, RULE, ("order", 3))
        run.go_on((1, 3))
        self.raises(BadSlot, (2,), run.go_on, (2,))
        self.assertEqual(run.go_on((3,))[1], (0,))
        run = Run(DEVICE, RULE, ("any", 3))
        run.go_on((3, 0))
        self.raises(BadSlot, (2,), run.go_on, (2,))
        self.assertEqual(run.go_on((1, 0))[1], (3,))

    def test_thousand_slots_and_one_more(self):
        for service, whos in ((("queue", 2), (2, 2, 0, 1, 0, 1, 0)), (("order", 1), ((3,), (), ())),
                              (("any", 3), ((2, 0), (), (3,), ()))):
            run, script = Run(DEVICE, RULE, service), ()
            for slot in range(1000):
                run.go_on(whos[slot % len(whos)])
                script += (whos[slot % len(whos)],)
            lanes = lanes_at(DEVICE, RULE, service, script, 1000)
            self.assertEqual(self.stands(run), (1000, script, lanes))
            for value in (0, (), 1, (0,), None, True, []):
                self.raises(BadSlot, value, run.go_on, value)
                self.raises(BadSlot, value, run.copy().go_on, value)
                self.assertEqual(self.stands(run), (1000, script, lanes))

    def test_slots_come_to_thousand(self):
        run = Run(DEVICE, RULE, ("any", 1))
        for slot in range(1000):
            self.assertEqual(run.slot, slot)
            self.assertEqual(run.go_on((3,))[1], (slot - 3,) if slot > 2 else ())

    def test_copies_go_on_crosswise(self):
        choice = random.Random(12)
        for device in DEVICES:
            for service in ALL_SERVICES:
                rule = made_rule(choice, device, 6)
                if not rule:
                    continue
                size, run = len(rule) - 1, Run(device, rule, service)
                runs, scripts = [run], [()]
                for step in range(24):
                    at = choice.randrange(len(runs))
                    if step % 8 == 3:
                        runs.append(runs[at].copy())
                        scripts.append(scripts[at])
                        self.assertEqual(self.stands(runs[-1]), self.stands(runs[at]))
                        self.assertIs(type(runs[-1]), Run)
                    scripts[at] = self.go_by(choice, runs[at], service, size, scripts[at], device, rule)
                    for one, script in zip(runs, scripts):
                        self.assertEqual([one.slot, one.script], [len(script), script])
                        self.assertEqual(one.lanes, lanes_at(device, rule, service, script, len(script)))

    def go_by(self, choice, run, service, size, script, device, rule):
        """Lets the run go on by a slot that can stand; the script behind it."""
        whos = [0, 1, 2, 3, 4] if service[0] == "queue" else [(), (0,), (size,), (1, 2), (0, size), (size, 0), (3,)]
        whos = [who for who in whos if type(plain_packets(service, size, script + (who,))) is list]
        script += (choice.choice(whos),)
        told = going(device, rule, plain_packets(service, size, script), len(script))
        self.assertEqual(run.go_on(script[-1]), told[-1][:3])
        return script

    def test_a_copy_of_a_refused_run_stands_alike(self):
        run = Run(DEVICE, RULE, TWO)
        run.go_on(2)
        self.raises(BadSlot, 3, run.go_on, 3)
        twin = run.copy()
        self.assertEqual(self.stands(twin), self.stands(run))
        self.assertEqual([twin.go_on(2), run.go_on(2)], [(((0, 0, 3), (0, 1, 2), (1, 0, 1), (1, 1, 3)), (1,), ())] * 2)

    def test_told_tuples_do_not_change(self):
        run = Run(DEVICE, RULE, ("any", 2))
        kept = []
        for who in ((3, 0), (3,), (), (2, 3), (), ()):
            kept.append((run.script, run.lanes))
            kept.append(run.go_on(who))
            kept.append(run.copy().lanes)
        again = Run(DEVICE, RULE, ("any", 2))
        for at, who in enumerate(((3, 0), (3,), (), (2, 3), (), ())):
            self.assertEqual(kept[3 * at], (again.script, again.lanes))
            self.assertEqual(kept[3 * at + 1], again.go_on(who))
            self.assertEqual(kept[3 * at + 2], again.lanes)

    def test_runs_of_one_device_do_not_share(self):
        one, other = Run(DEVICE, RULE, TWO), Run(DEVICE, RULE, TWO)
        one.go_on(2)
        self.assertEqual(self.stands(other), (0, (), (((), ()), ((), ()))))

    def test_a_run_tells_the_clashes_of_its_script(self):
        for device, rule, service, script in cases(13, 2, 12):
            run, told = Run(device, rule, service), ()
            for slot, who in enumerate(script):
                told += tuple((slot,) + clash for clash in run.go_on(who)[2])
            clashes = clashes_of(device, rule, service, script)
            self.assertEqual(told, tuple(clash for clash in clashes if clash[0] < len(script)))


if __name__ == "__main__":
    unittest.main()

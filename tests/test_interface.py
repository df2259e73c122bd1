"""The names, parameters and places that the document's interface lists."""

import ast
import importlib
import inspect
import os
import unittest

from queueloops.desk import Desk
from queueloops.devices import Device
from queueloops.runs import Run

PACKAGE = os.path.join(os.path.dirname(os.path.dirname(os.path.abspath(__file__))), "queueloops")

ERRORS = """LoopError BadDevice BadStages BadRow BadNumber LacksDelay BadService BadSize BadScript BadSlot BadCounts
TooMany TooGreat BadRule BadPair NoPair BadBases BadOrder InUse FewLanes UnlikeSizes BadArrivals BadPlace TooFew
NoThing WrongKind BadName Held BadDeed BadSlots NothingToUndo NothingToRedo NoNote BadDesk""".split()

FUNCTIONS = {
    "devices": {
        "device_text": ["stages"],
        "rows_of": ["device"],
        "row_delay": ["device", "row"],
        "delays_of": ["device"],
        "rows_for": ["device", "delay"],
        "is_rule": ["device", "value"],
        "least_rule": ["device", "size"],
        "rules_many": ["device", "size"],
    },
    "services": {
        "is_service": ["value"],
        "packets_of": ["service", "size", "script"],
        "leaves_of": ["service", "size", "script"],
        "led_on": ["service", "size", "script", "slot"],
        "fits": ["service", "size", "script"],
        "waiting": ["counts"],
        "scripts_many": ["service", "size", "slots"],
    },
    "runs": {
        "routes": ["device", "rule", "service", "script"],
        "clashes_of": ["device", "rule", "service", "script"],
        "lanes_at": ["device", "rule", "service", "script", "slot"],
    },
    "pairs": {
        "can_be": ["service", "size", "pair"],
        "pair_script": ["service", "size", "pair"],
    },
    "tables": {
        "meets": ["device", "rule", "pair"],
        "clash_pairs": ["device", "rule", "service"],
        "serves": ["device", "rule", "service"],
        "least_clash": ["device", "rule", "service"],
        "shows_least_clash": ["device", "rule", "service", "value"],
        "safe_size": ["device", "rule", "service"],
    },
    "figures": {
        "figures_device": ["bases"],
        "figures_of": ["bases", "number"],
        "figures_rule": ["bases"],
        "figures_serve": ["bases", "service"],
        "figures_clash": ["bases", "service"],
        "moved_device": ["device", "order"],
        "moved_rule": ["device", "rule", "order"],
    },
    "sizes": {
        "greatest_rule": ["device", "service"],
        "shows_greatest": ["device", "service", "value"],
        "why_no_more": ["device", "service"],
        "serving_rules": ["device", "service", "size"],
    },
    "likes": {
        "turned": ["device"],
        "turned_rule": ["device", "rule"],
        "with_lanes": ["device", "stage", "order"],
        "rule_with_lanes": ["device", "rule", "stage", "order"],
        "unused_lanes": ["device", "rule"],
        "lane_out": ["device", "rule", "stage", "lane"],
        "alike": ["device", "rule", "other", "other_rule", "service"],
        "shows_alike": ["device", "rule", "other", "other_rule", "service", "value"],
    },
    "far": {
        "came_by": ["first", "again", "slot"],
        "left_by": ["first", "again", "slot"],
        "waits_at": ["first", "again", "slot"],
        "delay_at": ["first", "again", "slot", "place"],
        "packet_at": ["first", "again", "number"],
        "leaves_at": ["first", "again", "slot"],
        "lap_goes": ["first", "again"],
        "most_delay": ["first", "again"],
        "first_above": ["first", "again", "size"],
    },
    "desk": {
        "desk_text": ["desk"],
        "read_desk": ["text"],
    },
}

CLASSES = {"errors": ERRORS, "devices": ["Device"], "services": [], "runs": ["Run"], "pairs": [], "tables": [],
           "figures": [], "sizes": [], "likes": [], "far": [], "desk": ["Desk"]}
METHODS = {"Device": {"__init__": ["self", "text"], "__len__": ["self"], "__eq__": ["self", "other"]},
           "Run": {"__init__": ["self", "device", "rule", "service"], "go_on": ["self", "who"], "copy": ["self"]},
           "Desk": {"__init__": ["self"], "__len__": ["self"], "__contains__": ["self", "value"],
                    "lead": ["self", "deed"], "thing_of": ["self", "name"], "thing_kind": ["self", "name"],
                    "device_of": ["self", "name"], "does_serve": ["self", "rule", "service"], "undo": ["self"],
                    "redo": ["self"], "note": ["self", "word"], "notes": ["self"], "back": ["self", "word"],
                    "all_deeds": ["self"]}}


def tree_of(module):
    with open(os.path.join(PACKAGE, module + ".py"), encoding="utf-8") as file:
        return ast.parse(file.read())


class InterfaceTest(unittest.TestCase):
    def test_functions_have_their_parameters(self):
        for module, functions in FUNCTIONS.items():
            for name, parameters in functions.items():
                with self.subTest(name=name):
                    function = getattr(importlib.import_module("queueloops." + module), name)
                    told = inspect.signature(function).parameters.values()
                    self.assertEqual([each.name for each in told], parameters)
                    self.assertEqual({each.kind for each in told}, {inspect.Parameter.POSITIONAL_OR_KEYWORD})
                    self.assertEqual({each.default for each in told}, {inspect.Parameter.empty})

    def test_functions_are_defined_in_their_files(self):
        for module, functions in FUNCTIONS.items():
            defined = [node.name for node in tree_of(module).body if isinstance(node, ast.FunctionDef)]
            for name in functions:
                self.assertIn(name, defined)

    def test_classes_are_defined_in_their_files(self):
        for module, classes in CLASSES.items():
            defined = [node.name for node in tree_of(module).body if isinstance(node, ast.ClassDef)]
            self.assertEqual(sorted(defined), sorted(classes))

    def test_methods_are_defined_in_their_classes(self):
        for module in ("devices", "runs", "desk"):
            for node in tree_of(module).body:
                if isinstance(node, ast.ClassDef):
                    defined = {each.name: each for each in node.body if isinstance(each, ast.FunctionDef)}
                    for name, parameters in METHODS[node.name].items():
                        self.assertEqual([each.arg for each in defined[name].args.args], parameters)

    def test_device_takes_its_text_by_name(self):
        self.assertEqual(list(inspect.signature(Device).parameters), ["text"])
        self.assertEqual(Device(text="stage 0 1"), Device("stage 0 1"))

    def test_run_takes_its_parameters_by_name(self):
        self.assertEqual(list(inspect.signature(Run).parameters), ["device", "rule", "service"])
        run = Run(service=("any", 1), rule=((0,),), device=Device("stage 0 1"))
        self.assertEqual(run.go_on(who=()), ((), (), ()))

    def test_desk_takes_no_parameters(self):
        self.assertEqual(list(inspect.signature(Desk).parameters), [])

    def test_attributes_are_set_when_objects_are_created(self):
        objects = {"text stages": Device("stage 0 1"),
                   "slot script lanes": Run(Device("stage 0 1"), ((0,),), ("any", 1)),
                   "names": Desk()}
        for names, thing in objects.items():
            for name in names.split():
                self.assertIn(name, vars(thing))


if __name__ == "__main__":
    unittest.main()

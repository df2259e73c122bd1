"""The names, parameters and places that the document's interface lists."""

import ast
import importlib
import inspect
import os
import unittest

from queueloops.devices import Device

PACKAGE = os.path.join(os.path.dirname(os.path.dirname(os.path.abspath(__file__))), "queueloops")

ERRORS = """LoopError BadDevice BadStages BadRow BadNumber LacksDelay BadService BadSize BadScript BadSlot BadCounts
TooMany TooGreat BadRule BadPair NoPair BadBases BadOrder InUse FewLanes UnlikeSizes BadArrivals BadPlace TooFew
NoThing WrongKind BadName Held BadDeed BadSlots NothingToUndo NothingToRedo NoNote BadDesk""".split()

FUNCTIONS = {
    "devices": {
        "device_text": ["stages"],
        "rows_of": ["device"],
        "row_delay": ["device", "row"],
        "delays_of": ["device"],
        "rows_for": ["device", "delay"],
        "is_rule": ["device", "value"],
        "least_rule": ["device", "size"],
        "rules_many": ["device", "size"],
    },
    "services": {
        "is_service": ["value"],
        "packets_of": ["service", "size", "script"],
        "leaves_of": ["service", "size", "script"],
        "led_on": ["service", "size", "script", "slot"],
        "fits": ["service", "size", "script"],
        "waiting": ["counts"],
        "scripts_many": ["service", "size", "slots"],
    },
}

CLASSES = {"errors": ERRORS, "devices": ["Device"], "services": []}
METHODS = {"Device": ["__init__", "__len__", "__eq__"]}


def tree_of(module):
    with open(os.path.join(PACKAGE, module + ".py"), encoding="utf-8") as file:
        return ast.parse(file.read())


class InterfaceTest(unittest.TestCase):
    def test_functions_have_their_parameters(self):
        for module, functions in FUNCTIONS.items():
            for name, parameters in functions.items():
                with self.subTest(name=name):
                    function = getattr(importlib.import_module("queueloops." + module), name)
                    told = inspect.signature(function).parameters.values()
                    self.assertEqual([each.name for each in told], parameters)
                    self.assertEqual({each.kind for each in told}, {inspect.Parameter.POSITIONAL_OR_KEYWORD})
                    self.assertEqual({each.default for each in told}, {inspect.Parameter.empty})

    def test_functions_are_defined_in_their_files(self):
        for module, functions in FUNCTIONS.items():
            defined = [node.name for node in tree_of(module).body if isinstance(node, ast.FunctionDef)]
            for name in functions:
                self.assertIn(name, defined)

    def test_classes_are_defined_in_their_files(self):
        for module, classes in CLASSES.items():
            defined = [node.name for node in tree_of(module).body if isinstance(node, ast.ClassDef)]
            self.assertEqual(sorted(defined), sorted(classes))

    def test_methods_are_defined_in_their_classes(self):
        for node in tree_of("devices").body:
            if isinstance(node, ast.ClassDef):
                defined = [each.name for each in node.body if isinstance(each, ast.FunctionDef)]
                for name in METHODS[node.name]:
                    self.assertIn(name, defined)

    def test_device_takes_its_text_by_name(self):
        self.assertEqual(list(inspect.signature(Device).parameters), ["text"])
        self.assertEqual(Device(text="stage 0 1"), Device("stage 0 1"))


if __name__ == "__main__":
    unittest.main()

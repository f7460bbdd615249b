"""The names and arguments of the document's interface."""

import importlib
import inspect
import unittest

from cornerdoors.nets import Net
from cornerdoors.walks import ends, partner, walk

FUNCTIONS = {
    "nets": {"Net": "marks", "mark": "net x y", "corners": "net triangle", "triangles": "net", "sense": "net triangle"},
    "floors": {"is_floor": "net floor", "border": "net floor", "senses": "net floor", "turns": "net floor"},
    "walks": {"ends": "net floor", "walk": "net floor end", "partner": "net floor end"},
    "rooms": {"ruled": "net", "reached": "net", "joint": "nets", "settled": "nets"},
}


class Interface(unittest.TestCase):
    def test_each_name_is_there_with_its_arguments(self):
        for module, functions in FUNCTIONS.items():
            for name, arguments in functions.items():
                with self.subTest(module=module, name=name):
                    found = getattr(importlib.import_module("cornerdoors." + module), name)
                    self.assertEqual(list(inspect.signature(found).parameters), arguments.split())

    def test_arguments_are_taken_by_name(self):
        net = Net(marks=[[0, 1], [2]])
        floor = [(0, 0, 0)]
        end = ("door", (0, 0, 0), 0)
        self.assertEqual(ends(net=net, floor=floor), [("whole", (0, 0, 0)), end])
        self.assertEqual(walk(net=net, floor=floor, end=end), floor)
        self.assertEqual(partner(net=net, floor=floor, end=end), ("whole", (0, 0, 0)))


if __name__ == "__main__":
    unittest.main()

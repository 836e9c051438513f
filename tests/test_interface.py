"""The interface: names, parameters, default values, and the file in which each one is defined."""

import ast
import importlib
import inspect
import unittest

FUNCTIONS = {
    "rooms": {
        "is_name": "(value)", "is_room": "(value)", "is_program": "(value)", "part_names": "(source)",
        "nodes": "(source, part)", "node_at": "(source, place)", "with_node": "(source, place, node)",
        "depth_of": "(source, place)", "face_of": "(program)", "number_of": "(program, name)",
        "room_renamed": "(source, table)", "runs_of": "(source, part)", "asks_of": "(source, part)",
    },
    "roomtexts": {
        "program_text": "(program)", "room_text": "(source)", "expr_text": "(source, place)", "program_of": "(text)",
    },
    "meaning": {"source_row": "(program, number, steps)"},
    "alone": {
        "first_state": "(program, room)", "moved": "(program, room, state, event, steps=2000)",
        "view_alone": "(program, room, events, steps=2000)",
    },
    "sections": {
        "is_section": "(value)", "is_board": "(value)", "board_face": "(board)",
        "with_section": "(board, room, section)", "instruction": "(number)", "instruction_number": "(value)",
    },
    "sectiontexts": {"section_text": "(section)", "section_of": "(text)"},
}
METHODS = {
    ("meaning", "Run"): {
        "__init__": "(self, program, number)", "go": "(self, steps)", "reach": "(self, length, steps)",
        "cells": "(self, room)",
    },
}
PROPERTIES = {("meaning", "Run"): ["row", "steps", "state", "fault", "control"]}


def tree_of(module):
    with open(module.__file__, encoding="utf-8") as file:
        return ast.parse(file.read())


class InterfaceTest(unittest.TestCase):
    def test_functions(self):
        for file, table in FUNCTIONS.items():
            module = importlib.import_module("ownharm." + file)
            defined = [row.name for row in tree_of(module).body if isinstance(row, ast.FunctionDef)]
            for name, told in table.items():
                self.assertIn(name, defined)
                self.assertEqual(str(inspect.signature(getattr(module, name))), told, name)

    def test_methods_stand_in_the_class_itself(self):
        for (file, name), table in METHODS.items():
            owner = getattr(importlib.import_module("ownharm." + file), name)
            for method, told in table.items():
                self.assertIn(method, vars(owner))
                self.assertEqual(str(inspect.signature(vars(owner)[method])), told)

    def test_properties_are_there_from_the_begin(self):
        for (file, name), attributes in PROPERTIES.items():
            owner = getattr(importlib.import_module("ownharm." + file), name)
            made = owner((1, (("m", (), (), (), (("go", "x", 1, ()),)),)), 0)
            for attribute in attributes:
                self.assertTrue(hasattr(made, attribute))


if __name__ == "__main__":
    unittest.main()

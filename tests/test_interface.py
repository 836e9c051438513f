"""The interface: names, parameters, default values, and the file in which each one is defined."""

import ast
import importlib
import inspect
import unittest

FUNCTIONS = {
    "rooms": {
        "is_name": "(value)", "is_room": "(value)", "is_program": "(value)", "part_names": "(source)",
        "nodes": "(source, part)", "node_at": "(source, place)", "with_node": "(source, place, node)",
        "depth_of": "(source, place)", "face_of": "(program)", "number_of": "(program, name)",
        "room_renamed": "(source, table)", "runs_of": "(source, part)", "asks_of": "(source, part)",
    },
    "roomtexts": {
        "program_text": "(program)", "room_text": "(source)", "expr_text": "(source, place)", "program_of": "(text)",
    },
    "meaning": {"source_row": "(program, number, steps)"},
    "alone": {
        "first_state": "(program, room)", "moved": "(program, room, state, event, steps=2000)",
        "view_alone": "(program, room, events, steps=2000)",
    },
    "sections": {
        "is_section": "(value)", "is_board": "(value)", "board_face": "(board)",
        "with_section": "(board, room, section)", "instruction": "(number)", "instruction_number": "(value)",
    },
    "sectiontexts": {"section_text": "(section)", "section_of": "(text)"},
    "machine": {
        "machine_row": "(board, number, steps)", "handed": "(board, number, steps)",
        "section_acts": "(board, room, events, steps)",
    },
    "compiling": {"layout": "(program, room)", "compiled": "(program, room)", "places_of": "(program, room)"},
    "boards": {"board_of": "(program, foreign=None)"},
    "changes": {
        "stores_of": "(source, place)", "is_change": "(source, thing)", "changed": "(source, change)",
        "changes_of": "(source)",
    },
    "passes": {
        "is_paper": "(source, thing)", "along": "(source, paper)", "shortened": "(source)", "loads": "(source)",
        "inlining": "(source, place)", "improved": "(source)",
    },
    "rows": {
        "is_row": "(value)", "control_of": "(row)", "open_of": "(row)", "is_face": "(value)", "fits": "(row, face)",
        "is_view": "(value)", "view_of": "(row, room)", "joined": "(face, views)", "renumbered": "(row, order)",
        "renumbered_face": "(face, order)",
    },
    "rowtexts": {"row_text": "(row)", "row_of": "(text)"},
    "viewtrees": {
        "is_tree": "(value)", "tree_of": "(views)", "act_behind": "(tree, events)", "least_tree": "(tree)",
    },
    "making": {"made": "(program, room, tree)", "made_all": "(program, row)"},
    "explaining": {
        "exchanged": "(program, row, rooms)", "explained": "(program, row, foreign=(), steps=200000)",
        "is_explained": "(program, row, foreign, value, steps=200000)",
        "sound_row": "(program, row, foreign=(), steps=200000)", "beside": "(programs, rows, rooms)",
    },
    "wishes": {
        "is_small": "(value)", "is_wish": "(value)", "wish_state": "(wish, view)", "broken_at": "(wish, view)",
    },
    "levels": {
        "contents": "(small, levels=None)", "closed_level": "(small)", "harm": "(small, levels=None)",
        "is_harmless": "(small, levels=None)", "breaking": "(small, wish, levels=None)",
        "is_kept": "(small, wish, levels=None)", "parting": "(one, other, levels=None)",
        "are_alike": "(one, other, levels=None)",
    },
    "partners": {
        "is_play": "(small, value)", "partner": "(small, play)", "parting_partner": "(one, other, levels=None)",
    },
}
PROGRAM = (1, (("m", (), (), (), (("go", "x", 1, ()),)),))
MADE_OF = {
    "Run": (PROGRAM, 0), "Machine": ((1, ((),), (((0,), (0,)),)), 0), "Bench": (PROGRAM, 0), "Desk": (),
}
METHODS = {
    ("meaning", "Run"): {
        "__init__": "(self, program, number)", "go": "(self, steps)", "reach": "(self, length, steps)",
        "cells": "(self, room)",
    },
    ("machine", "Machine"): {
        "__init__": "(self, board, number)", "go": "(self, steps)", "cells": "(self, room)",
        "put": "(self, room, address, number)", "copy": "(self)", "moment": "(self)",
    },
    ("bench", "Bench"): {
        "__init__": "(self, program, number)", "go": "(self, steps)", "write": "(self, room, address, number)",
        "lay": "(self, room, section)", "recompile": "(self, room)", "rewrite": "(self, room, source)",
        "begin": "(self, number)", "settle": "(self)", "keep": "(self, name)", "back": "(self, name)", "undo": "(self)",
        "cells": "(self, room)", "blames": "(self, steps=200000)", "row_at": "(self, at)", "copy": "(self)",
        "tried": "(self, task)", "__len__": "(self)", "__eq__": "(self, other)",
    },
    ("desk", "Desk"): {"__init__": "(self)", "say": "(self, line)"},
}
PROPERTIES = {
    ("meaning", "Run"): ["row", "steps", "state", "fault", "control"],
    ("machine", "Machine"): ["row", "steps", "state", "at", "registers", "open_asks"],
    ("bench", "Bench"): ["program", "number", "laid", "touched", "row", "state", "steps", "kept", "log"],
}


def tree_of(module):
    with open(module.__file__, encoding="utf-8") as file:
        return ast.parse(file.read())


class InterfaceTest(unittest.TestCase):
    def test_functions(self):
        for file, table in FUNCTIONS.items():
            module = importlib.import_module("ownharm." + file)
            defined = [row.name for row in tree_of(module).body if isinstance(row, ast.FunctionDef)]
            for name, told in table.items():
                self.assertIn(name, defined)
                self.assertEqual(str(inspect.signature(getattr(module, name))), told, name)

    def test_methods_stand_in_the_class_itself(self):
        for (file, name), table in METHODS.items():
            owner = getattr(importlib.import_module("ownharm." + file), name)
            for method, told in table.items():
                self.assertIn(method, vars(owner))
                self.assertTrue(callable(getattr(owner(*MADE_OF[name]), method)))
                self.assertEqual(str(inspect.signature(vars(owner)[method])), told)

    def test_properties_are_there_from_the_begin(self):
        for (file, name), attributes in PROPERTIES.items():
            owner = getattr(importlib.import_module("ownharm." + file), name)
            made = owner(*MADE_OF[name])
            for attribute in attributes:
                self.assertTrue(hasattr(made, attribute))


if __name__ == "__main__":
    unittest.main()

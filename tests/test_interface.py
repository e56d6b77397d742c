"""The interface: all names are there in their files, and take as many things as they are to take."""

import unittest
from importlib import import_module
from inspect import isclass, signature

FUNCTIONS = {
    "boards": {
        "is_letter": 1, "is_board": 1, "cells": 1, "letter_at": 2, "with_letter": 3, "beside": 3, "turned": 1,
        "mirrored": 1, "stacked": 2, "letters": 1,
    },
    "patches": {
        "patch_of": 3, "patches": 2, "how_many": 2, "numbered": 2, "way": 4, "are_one": 4, "is_way": 5, "is_fence": 5,
    },
    "measures": {
        "size": 3, "rim": 3, "box": 3, "shut_in": 3, "holes": 3, "touching": 2, "greatest": 2, "at_edge": 2,
    },
    "painting": {"painted": 4, "change": 4, "cuts": 2, "paints_over": 3, "fewest_paints": 2},
    "melting": {"melted_once": 3, "melted": 3, "steps_of": 3},
    "scanning": {"seam": 3, "how_many_together": 3, "sizes_together": 3},
    "texts": {"board_text": 1, "numbers_text": 2, "read_board": 1},
    "maps": {"neighbours": 3, "borders": 4, "middle": 2},
    "roads": {"fewest_changes": 4, "steps_over": 5},
    "parts": {"cut_out": 5, "found_in": 2, "relettered": 1, "swapped": 3, "are_like": 2},
}

CLASSES = {
    ("keepers", "Keeper"): {"shown": 0, "many": 0, "mark": 2, "paint": 2, "melt": 1, "undo": 0},
    ("games", "Game"): {
        "rows": 0, "take": 1, "can_take": 0, "left": 0, "points": 0, "back": 0, "forth": 0, "steps": 0, "twin": 0,
    },
}

REFUSALS = ["NoBoard", "NoWays", "NoCell", "NoLetter", "NoNumber", "NoFit", "Nothing", "NoText"]


def named(module, name):
    return getattr(import_module("cellpatches." + module), name)


class TestInterface(unittest.TestCase):
    def test_functions(self):
        for module, functions in FUNCTIONS.items():
            for name, many in functions.items():
                with self.subTest(module=module, name=name):
                    self.assertEqual(len(signature(named(module, name)).parameters), many)

    def test_classes(self):
        for (module, name), methods in CLASSES.items():
            made = named(module, name)(("aab", "bab"), 4)
            self.assertEqual(len(signature(named(module, name)).parameters), 2)
            for method, many in methods.items():
                with self.subTest(name=name, method=method):
                    self.assertEqual(len(signature(getattr(made, method)).parameters), many)

    def test_refusals(self):
        for name in REFUSALS + ["PatchError"]:
            self.assertTrue(isclass(named("errors", name)), name)
        for name in REFUSALS:
            self.assertEqual(named("errors", name).__bases__, (named("errors", "PatchError"),))
        self.assertEqual(named("errors", "PatchError").__bases__, (ValueError,))


if __name__ == "__main__":
    unittest.main()

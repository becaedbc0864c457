"""The interface: each module has the names that the document tells, taking so many things by their places."""

import importlib
import inspect
import unittest

# Each module's functions, and its classes with their methods, by how many things they take.
FUNCTIONS = {
    "plans": {"is_plan": 1, "devices": 1, "stretches": 1, "openers": 1, "parts": 2, "wrong": 1},
    "plantexts": {"show_plan": 1, "read_plan": 1},
    "frames": {"frame": 3, "is_frame": 1},
    "rules": {"is_condition": 1, "is_rules": 1, "rules_wrong": 2, "says": 3},
    "tables": {"is_table": 1, "table_of": 2},
    "ruletexts": {"show_rules": 1, "read_rules": 1},
    "journal": {"record": 2, "read_journal": 1},
    "panels": {"joined": 2},
    "finding": {"heard_with": 3, "agreeing": 5, "told_place": 4},
    "making": {"fewest_openers": 2, "volts": 4, "least_supply": 3},
    "checker": {"holds": 2},
    "papers": {"paper_of": 3},
}
CLASSES = {
    "wires": ("Wires", 1, {
        "cut": 1, "short": 1, "mend": 1, "how": 1, "take_out": 1, "put_in": 3, "there": 0, "parted": 0, "act": 1,
        "rests": 0, "come_to_rest": 0, "heard": 2,
    }),
    "talk": ("Talk", 1, {"turn": 0, "beat": 1, "word_of": 1, "lost": 0, "heard_now": 0}),
    "levels": ("Seeker", 1, {"ask": 2, "reset": 0, "base": 0, "warned": 0}),
    "tables": ("Runner", 1, {"beat": 3}),
    "sounding": ("Sounder", 1, {
        "beat": 1, "press": 0, "silence": 0, "reset": 0, "lengthen": 1, "put_out": 2, "state_of": 1, "sounded": 0,
        "out_of_use": 0,
    }),
    "journal": ("Journal", 1, {"write": 1, "notes": 0, "cells": 0}),
    "stores": ("Store", 3, {"keep": 1, "beat": 1, "held": 0, "stands": 0}),
    "panels": ("Ring", 1, {"write": 2, "cut": 1, "mend": 1, "beat": 0, "log_of": 1, "houses": 0}),
    "house": ("House", 4, {
        "befall": 1, "beat": 4, "press": 0, "silence": 0, "reset": 0, "lengthen": 1, "put_out": 2,
        "notes": 0, "lost": 0,
        "sounded": 0, "warned": 0,
    }),
    "desk": ("Desk", 0, {"say": 1}),
}


def module(name):
    return importlib.import_module(f"warnloop.{name}")


class Names(unittest.TestCase):
    def check_takes(self, called, many):
        """It takes so many things by their places, no more and no fewer."""
        inspect.signature(called).bind(*range(many))
        self.assertRaises(TypeError, inspect.signature(called).bind, *range(many + 1))
        if many:
            self.assertRaises(TypeError, inspect.signature(called).bind, *range(many - 1))

    def test_functions(self):
        for name, functions in FUNCTIONS.items():
            for call, many in functions.items():
                with self.subTest(module=name, function=call):
                    self.check_takes(getattr(module(name), call), many)

    def test_classes(self):
        for name, (call, many, methods) in CLASSES.items():
            made = getattr(module(name), call)
            self.check_takes(made, many)
            for method, things in methods.items():
                with self.subTest(made=call, method=method):
                    # The first thing is the object itself.
                    self.check_takes(getattr(made, method), things + 1)


if __name__ == "__main__":
    unittest.main()

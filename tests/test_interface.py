"""The names, places and parameters of the interface."""

import importlib
import inspect
import unittest

PROPERTY, CLASS_VALUE = "property", "class value"

FUNCTIONS = {
    "names": {"is_integer": "value", "is_name": "value", "up": "number by", "least_power": "base number"},
    "boards": {"every_board": "frame"},
    "verdictcheck": {"shows": "table answers one other thing", "shows_cases": "table answers names thing"},
    "counting": {"count": "verdict", "boards": "verdict"},
    "spread": {"spread": "verdict name", "stake": "verdict name", "bounds": "verdict"},
    "spreadcheck": {"shows_spread": "verdict name thing", "shows_stake": "verdict name thing"},
    "asking": {"at_once": "verdict", "next_word": "verdict", "hardest": "verdict"},
    "twins": {"weights": "rows", "twins": "verdict *words", "shows_twins": "verdict words thing"},
    "telling": {"tells_all": "table", "fewest_words": "frame", "fewest_table": "frame"},
    "tellcheck": {"shows_telling": "table thing"},
    "finding": {"finds": "table wires", "fewest_finding": "wires", "finding_table": "wires"},
    "findcheck": {"shows_finding": "table wires thing"},
    "needed": {"needed": "table answers", "shows_needed": "table answers thing"},
    "hurt": {"deeds_for": "words", "lone_words": "frame", "agrees": "chain deeds board hurt=None"},
    "texts": {
        "frame_text": "frame", "word_text": "word", "board_text": "board", "session_text": "table answers", "chart": "verdict",
    },
    "reader": {"read_frame": "text", "read_word": "frame text", "read_board": "frame text", "read_session": "text"},
}
LEG = {"__init__": "self name", "KIND": CLASS_VALUE, "drives": PROPERTY, "__eq__": None, "__str__": None, "__repr__": None}
CLASSES = {
    "legs": {"Leg": LEG, "Driver": LEG, "Listener": LEG},
    "frames": {"Frame": {
        "__init__": "self *legs top=1 ground=False power=False", "of": "legs top=1 ground=False power=False", "MOST": CLASS_VALUE,
        "legs": PROPERTY, "names": PROPERTY, "drivers": PROPERTY, "listeners": PROPERTY, "rails": PROPERTY, "members": PROPERTY,
        "__contains__": None, "__getitem__": None, "__len__": None, "__eq__": None, "__add__": None, "__sub__": None,
    }},
    "words": {"Word": {
        "__init__": "self frame **levels", "of": "frame levels", "rest": "frame", "lone": "frame name level=0", "low": PROPERTY,
        "__getitem__": None, "__bool__": None, "__eq__": None, "__and__": None, "__str__": None, "__repr__": None,
    }},
    "boards": {"Board": {
        "__init__": "self frame *blocks", "of": "frame blocks", "blocks": PROPERTY, "joins": "self *names", "reads": "self word name",
        "__call__": "self word", "answering": "self *words", "within": "self other", "__getitem__": None, "__len__": None,
        "__eq__": None, "__or__": None, "__sub__": None, "__str__": None, "__repr__": None,
    }},
    "tables": {"Table": {
        "__init__": "self frame *words", "of": "frame words", "MOST": CLASS_VALUE, "words": PROPERTY, "without": "self index",
        "answers_of": "self board", "driven": "self name", "__getitem__": None, "__len__": None, "__eq__": None, "__add__": None,
    }},
    "readings": {"Readings": {
        "__init__": "self table answers", "table": PROPERTY, "answers": PROPERTY, "classes": PROPERTY, "idle": PROPERTY,
        "locked": PROPERTY, "mute": PROPERTY, "levels": "self name", "class_of": "self name", "marked": "self name",
        "makers": "self name index", "is_cover": "self names", "fits": "self board",
    }},
    "verdicts": {"Verdict": {
        "__init__": "self table answers", "MOST": CLASS_VALUE, "says": "self one other", "bundle": "self name", "bundles": PROPERTY,
        "settled": PROPERTY, "board": PROPERTY, "open_pairs": "self", "parted": "self *names", "paper": "self one other",
        "cases": "self *names",
    }},
    "spread": {"Bounds": {"__eq__": None}},
    "chains": {
        "Chain": {
            "__init__": "self frame *parts", "of": "frame parts", "MOST": CLASS_VALUE, "cells": PROPERTY, "part_of": "self name",
            "entering": "self word", "arrived": "self digits", "__len__": None, "__eq__": None,
        },
        "Hurt": {"__init__": "self link name", "link": PROPERTY, "__eq__": None, "__str__": None},
    },
    "bench": {"Bench": {
        "__init__": "self chain board hurt=None", "held": PROPERTY, "deeds": PROPERTY, "scan": "self word", "beats": "self word",
        "reset": "self", "trial": "self", "tried": "self deed", "asked": "self *words",
    }},
    "scans": {"Scans": {
        "__init__": "self chain deeds", "link": PROPERTY, "kind": PROPERTY, "held": PROPERTY, "caps": PROPERTY, "kept": PROPERTY,
        "table": PROPERTY, "answers": PROPERTY,
    }},
    "hurt": {"HurtVerdict": {
        "__init__": "self chain deeds", "verdict": PROPERTY, "with_link": "self name", "says": "self one other", "settled": PROPERTY,
    }},
    "tester": {"Tester": {
        "__init__": "self frame wires=None", "tell": "self answer word=None", "table": PROPERTY, "verdict": PROPERTY, "answers": PROPERTY,
        "wires": PROPERTY, "set_wires": "self wires", "__len__": None, "wanted": "self", "findings": "self", "undo": "self count=1",
        "trial": "self", "tried": "self deed",
    }},
    "desk": {"Desk": {"__init__": "self", "say": "self line", "__call__": "self line", "tester": "self"}},
}
ERRORS = {
    "JoinError": None, "MissingError": None, "Settled": None, "NothingToUndo": None, "InvalidFrame": "reason", "InvalidWord": "name",
    "InvalidBoard": "reason", "InvalidAnswer": "index name", "NoBoard": "index name", "InvalidChain": "reason",
    "InvalidHurt": "reason", "InvalidScan": "index", "InvalidText": "line word", "InvalidCommand": "word", "NoLeg": "name",
    "NoWord": "index", "TooMany": "most",
}


def parameters(call):
    """The parameters of a function or method, as the tables above write them."""
    told = []
    for one in inspect.signature(call).parameters.values():
        stars = {one.VAR_POSITIONAL: "*", one.VAR_KEYWORD: "**"}.get(one.kind, "")
        told.append(stars + one.name + ("" if one.default is one.empty else f"={one.default!r}"))
    return " ".join(told)


class Interface(unittest.TestCase):
    def find(self, module, name):
        found = getattr(importlib.import_module("strayjoins." + module), name)
        self.assertEqual(found.__module__, "strayjoins." + module)
        return found

    def test_functions(self):
        for module, functions in FUNCTIONS.items():
            for name, told in functions.items():
                self.assertEqual(parameters(self.find(module, name)), told, name)

    def test_errors(self):
        for name, told in ERRORS.items():
            kind = self.find("errors", name)
            if told is not None:
                self.assertEqual(parameters(kind), told, name)

    def test_classes(self):
        for module, classes in CLASSES.items():
            for title, told in classes.items():
                kind = self.find(module, title)
                for name, form in told.items():
                    self.assertIn(name, vars(kind), title)
                    self.look_at(kind, name, form)

    def look_at(self, kind, name, form):
        if form == PROPERTY:
            self.assertIsInstance(vars(kind)[name], property, name)
        elif form == CLASS_VALUE:
            self.assertIsInstance(getattr(kind, name), (int, str), name)
        elif form is not None:
            self.assertEqual(parameters(getattr(kind, name)), form, name)

    def test_class_methods(self):
        for module, title, names in (("frames", "Frame", ["of"]), ("words", "Word", ["of", "rest", "lone"]),
                                     ("boards", "Board", ["of"]), ("tables", "Table", ["of"]), ("chains", "Chain", ["of"])):
            for name in names:
                self.assertIsInstance(vars(self.find(module, title))[name], classmethod)

    def test_base_classes(self):
        for base, names in (("Readings", ["verdicts.Verdict"]), ("Scans", ["hurt.HurtVerdict"]), ("Leg", ["legs.Driver", "legs.Listener"])):
            module = {"Readings": "readings", "Scans": "scans", "Leg": "legs"}[base]
            for name in names:
                self.assertTrue(issubclass(self.find(*name.split(".")), self.find(module, base)))

    def test_wires_are_passed_by_name(self):
        kinds = inspect.signature(self.find("tester", "Tester").__init__).parameters
        self.assertEqual(kinds["wires"].kind, kinds["wires"].KEYWORD_ONLY)


if __name__ == "__main__":
    unittest.main()

"""The interface: what is listed exists, is defined where it is listed, and takes what is listed."""

import importlib
import inspect
import unittest

FUNCTIONS = {
    "systems": {"free_sets": "system"},
    "fitting": {"unfit": "system, world", "fits": "system, world", "fits_groups": "system, world",
                "fits_loosely": "system, world"},
    "sums": {"free_sum": "system, names=None", "is_safe": "system, names=None", "least_chance": "system, names=None",
             "worst": "system", "world_with": "system, chance", "no_way_out": "system"},
    "given": {"least_given": "system, names, given", "greatest_given": "system, name, given",
              "limit": "system, name", "room": "system, name, chance", "greatest_scale": "system, bottom"},
    "papers": {"is_paper": "system, weights", "paper_bound": "system, weights", "is_sheet": "system, weights",
               "sheet_bound": "system, weights"},
    "mending": {"too_much": "system, chance=None", "mends": "system, chance=None",
                "least_cuts": "system, chance=None", "worst_links": "system, chance=None"},
    "rows": {"fan_limit": "many", "fan_chance": "share, many, depth"},
    "coins": {"throws_bound": "system, name"},
    "texts": {"write": "thing", "read": "text"},
}
CLASSES = {
    ("systems", "System"): {
        "__init__": "self, shares, links=()", "shares": "self", "links": "self", "near": "self, name",
        "changed": "self, name, share", "tied": "self, one, other", "untied": "self, one, other",
        "more": "self, name, share, near=()", "scaled": "self, number", "split": "self, name, shares",
        "__getitem__": "self, at", "__len__": "self", "__contains__": "self, x", "__iter__": "self",
        "__eq__": "self, other", "__add__": "self, other", "__mul__": "self, other", "__and__": "self, other",
        "__sub__": "self, other"},
    ("worlds", "World"): {
        "__init__": "self, names, outcomes", "names": "self", "outcomes": "self",
        "chance": "self, happen, stay=()", "none": "self, names=None", "given": "self, stay", "quiet": "names",
        "__getitem__": "self, at", "__len__": "self", "__iter__": "self", "__eq__": "self, other",
        "__mul__": "self, other", "__and__": "self, other"},
    ("rows", "Row"): {
        "__init__": "self, shares", "shares": "self", "system": "self, start, count", "chance": "self, start, count",
        "unsafe_at": "self, start=0", "stay": "self", "is_stay": "self, thing", "__getitem__": "self, at",
        "__eq__": "self, other"},
    ("coins", "Coins"): {
        "__init__": "self, coins, faults", "settings": "self", "happening": "self, setting", "world": "self",
        "system": "self", "way_out": "self", "throws": "self, order"},
    ("desks", "Desk"): {
        "__init__": "self, system", "system": "self", "put": "self, name, share, near=()", "drop": "self, name",
        "change": "self, name, share", "tie": "self, one, other", "untie": "self, one, other",
        "watch": "self, word, names", "unwatch": "self, word", "chances": "self", "undo": "self", "again": "self",
        "trial": "self, work"},
}


class InterfaceTest(unittest.TestCase):

    def test_functions(self):
        for place, functions in FUNCTIONS.items():
            module = importlib.import_module(f"linkedfaults.{place}")
            for name, told in functions.items():
                work = getattr(module, name)
                self.assertEqual((work.__module__, work.__name__), (module.__name__, name))
                self.assertEqual(str(inspect.signature(work)), f"({told})")

    def test_classes(self):
        for (place, name), methods in CLASSES.items():
            module = importlib.import_module(f"linkedfaults.{place}")
            kind = getattr(module, name)
            self.assertEqual((kind.__module__, kind.__name__), (module.__name__, name))
            for method, told in methods.items():
                self.assertIn(method, vars(kind))
                work = vars(kind)[method]
                if method == "quiet":
                    self.assertIsInstance(work, staticmethod)
                    work = work.__func__
                self.assertEqual(str(inspect.signature(work)), f"({told})")


if __name__ == "__main__":
    unittest.main()

"""Point 4: the errors and what they hold."""

import unittest

import linkedfaults.errors
from helper import caught
from linkedfaults.errors import FaultError
from linkedfaults.systems import System
from linkedfaults.worlds import World

HELD = {"BadFault": "name", "BadLink": "index", "NoFault": "name", "BadShare": "share", "SameFault": "name",
        "BadNumber": "number", "Clash": "name", "BadSum": None, "BadName": "name", "BadOutcome": "outcome",
        "Never": None, "UnlikeFaults": None, "Unsafe": "some", "NoPaper": None, "BadCount": "count",
        "BadPlace": "place", "BadCoin": "name", "BadSetting": None, "BadOrder": None, "NoEnd": None,
        "NoWatch": "word", "NoDeed": None, "BadText": "line"}

THINGS = ("a", "", 0, -5, 10 ** 5000, True, None, [], [1, [2]], ("a", ["b"]), {"a": [1, 2]}, {(1, 2): None},
          System({"a": 1}), [System({})])


class ErrorsTest(unittest.TestCase):

    def test_all_are_there_and_directly_under_fault_error(self):
        self.assertEqual(FaultError.__bases__, (ValueError,))
        for name in HELD:
            kind = getattr(linkedfaults.errors, name)
            self.assertEqual(kind.__bases__, (FaultError,), name)
            self.assertEqual((kind.__module__, kind.__name__), ("linkedfaults.errors", name))

    def test_they_hold_what_they_were_made_with_by_place_and_by_name(self):
        for name, held in HELD.items():
            kind = getattr(linkedfaults.errors, name)
            for thing in THINGS if held else ():
                for error in (kind(thing), kind(**{held: thing})):
                    self.assertEqual(vars(error), {held: thing}, name)
                    self.assertEqual(getattr(error, held).__class__, thing.__class__)

    def test_those_without_a_parameter_are_made_without_one(self):
        for name, held in HELD.items():
            if held is None:
                error = getattr(linkedfaults.errors, name)()
                self.assertEqual(vars(error), {}, name)
                self.assertIsInstance(error, FaultError)

    def test_they_can_be_shown_whatever_they_hold(self):
        for name, held in HELD.items():
            kind = getattr(linkedfaults.errors, name)
            error = kind(10 ** 5000) if held else kind()
            self.assertIsInstance(str(error) + repr(error), str)

    def test_later_changes_don_t_reach_what_they_hold(self):
        for name, held in HELD.items():
            if held:
                told = [1, [2], {"a": [3]}, ("b", [4])]
                error = getattr(linkedfaults.errors, name)(told)
                told[1].append(5)
                told[2]["a"].append(5)
                told[3][1].append(5)
                told.append(5)
                self.assertEqual(vars(error), {held: [1, [2], {"a": [3]}, ("b", [4])]}, name)

    def test_later_changes_don_t_reach_what_lies_deep_in_it(self):
        wraps = (lambda x: [x], lambda x: (x,), lambda x: {"k": x}, lambda x: [0, (x, {"k": []}), [1]])
        for deep in (1, 7, 8, 9, 50, 150):
            for wrap in wraps:
                inner, wanted = [1, {"a": 2}], [1, {"a": 2}]
                told = inner
                for _ in range(deep):
                    told, wanted = wrap(told), wrap(wanted)
                errors = [getattr(linkedfaults.errors, name)(told) for name, held in HELD.items() if held]
                errors.append(caught(System({"a": (1, 2)}).__getitem__, told))
                errors.append(caught(World, ["a", told], {}))
                inner.append(3)
                inner[1].clear()
                for error in errors:
                    self.assertEqual(list(vars(error).values()), [wanted], deep)

    def test_what_stands_in_several_places(self):
        inner = [1]
        error = linkedfaults.errors.BadName([inner, (inner, {"a": inner, ("b", 1): [inner]}), inner])
        inner.append(2)
        self.assertEqual(error.name, [[1], ([1], {"a": [1], ("b", 1): [[1]]}), [1]])

    def test_they_hold_objects_that_are_deep_or_contain_themselves(self):
        inner = [1]
        deep = inner
        for turn in range(50000):
            deep = [deep, 0] if turn % 2 else (0, deep)
        endless = []
        endless.append(endless)
        system = System({"a": 1})
        held = caught(system.changed, "a", deep).share
        inner.append(2)
        for turn in reversed(range(50000)):
            self.assertIsInstance(held, list if turn % 2 else tuple)
            held = held[0 if turn % 2 else 1]
        self.assertEqual(held, [1])
        error = caught(system.changed, "a", endless)
        self.assertIsInstance(error, linkedfaults.errors.BadShare)
        self.assertIsInstance(error.share, list)

    def test_they_can_be_caught_as_value_errors(self):
        with self.assertRaises(ValueError):
            System({"A": 1})
        with self.assertRaises(FaultError):
            System({"A": 1})


if __name__ == "__main__":
    unittest.main()

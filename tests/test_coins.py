"""Points 35 to 37: coins, their settings, the faults that come of them, and a way out."""

import unittest
from fractions import Fraction
from itertools import product
from math import prod

from helper import ODD_THINGS, all_sets, by_chance, caught, pair, seen, shares_of, some_coins
from linkedfaults.coins import Coins
from linkedfaults.desks import Desk
from linkedfaults.fitting import fits_groups
from linkedfaults.rows import Row
from linkedfaults.sums import is_safe
from linkedfaults.systems import System
from linkedfaults.worlds import World

HALF = (1, 2)
FAIR = {"y": [HALF, HALF], "x": [(1, 3), (1, 3), (1, 3)]}
FAULTS = {"b": (["y", "x"], [[0, 2], [1, 2]]), "a": (["x"], [[0]]), "c": ([], [])}
PLAIN = Coins(FAIR, FAULTS)


def settings_by_words(coins):
    """Each setting with its chance."""
    names = sorted(coins)
    for row in product(*[range(len(coins[name])) for name in names]):
        share = prod([Fraction(*coins[name][side]) for name, side in zip(names, row)], start=Fraction(1))
        yield dict(zip(names, row)), share


def happening_by_words(faults, setting):
    return [name for name in sorted(faults)
            if [setting[coin] for coin in faults[name][0]] in [list(row) for row in faults[name][1]]]


class CoinsTest(unittest.TestCase):

    def test_keys_that_tell_no_coin(self):
        right = {"x": [1], "y": [HALF, HALF]}
        for key in (*[thing for thing in ODD_THINGS if thing.__class__ in (str, bool, int, tuple)], None, "abcdefghi",
                    "aB",
                    Desk(System({})), Coins({}, {})):
            self.assertEqual(seen(caught(Coins, {**right, key: [1], "z": 0, "Z": [1]}, {"A": 0})),
                             ("BadCoin", {"name": key}))
        sides = (*[thing for thing in ODD_THINGS], 1, (1, 2), [HALF], [HALF, HALF, HALF], [HALF, (1, 3)], [2, -1],
                 [(3, 2), (-1, 2)],
                 [1, None], [True], [True, False], "1", ["1"], {0: 1}, [[1]], [(1, 1), ()], [0, 0], Row([1]),
                 [HALF, [1, 2], 1],
                 [(10 ** 29, 10 ** 29 + 1)], [(1, 10 ** 29), (10 ** 29 - 2, 10 ** 29)])
        for thing in sides:
            if thing != (1, 0):
                self.assertEqual(seen(caught(Coins, {**right, "v": thing, "a": 0}, {})), ("BadCoin", {"name": "v"}))
                self.assertEqual(seen(caught(Coins, {"A": thing, "v": thing}, {"A": 1})), ("BadCoin", {"name": "A"}))

    def test_sides_that_are_right(self):
        for sides in ([1], (1,), [1, 0], (1, 0), [0, 1, 0], [HALF, HALF], [[1, 2], (2, 4), (0, 9)],
                      [(1, 10 ** 29), (10 ** 29 - 1, 10 ** 29)]):
            self.assertEqual(Coins({"x": sides}, {}).settings(), [{"x": k} for k in range(len(sides))])

    def test_keys_that_tell_no_fault(self):
        for key in (*[thing for thing in ODD_THINGS if thing.__class__ in (str, bool, int, tuple)], None, "abcdefghi",
                    "aB",
                    Desk(System({})), PLAIN):
            faults = {"v": ([], []), key: ([], []), "z": 0, "Z": 0}
            self.assertEqual(seen(caught(Coins, FAIR, faults)), ("BadFault", {"name": key}))
        things = (*ODD_THINGS, (["x"],), (["x"], [[0]], 0), [["x"], [[0]], []], (["z"], []), (["x", "x"], [[0, 0]]),
                  ("x", [[0]]),
                  (["x"], 0), (["x"], [0]), (["x"], [[3]]), (["x"], [[-1]]), (["x"], [[True]]), (["x"], [[0, 0]]),
                  (["x"], [[]]),
                  (["x", "y"], [[1, 2]]), (["y", "x"], [[0, 0], [2, 0]]), ([], [[0]]), ([], [0]), (["x"], [["0"]]),
                  (["x"], [[0], None]), (["x"], {0: 0}), ({"x": 0}, [[0]]), ([["x"]], [[0]]), ([None], [[0]]),
                  (None, None),
                  (["x"], [[(0,)]]), (["x"], [[[0]]]), (["x"], "0"), ([System({})], []), (["x"], [[False]]), ([{}], []),
                  (["x"], [[10 ** 29]]))
        for thing in things:
            self.assertEqual(seen(caught(Coins, FAIR, {"v": (["x"], [[0]]), "t": thing, "a": 0})),
                             ("BadFault", {"name": "t"}))

    def test_coins_come_ahead_of_faults(self):
        self.assertEqual(seen(caught(Coins, {"x": [1], "b": [2], "a": [2]}, {"A": 0})), ("BadCoin", {"name": "b"}))
        self.assertEqual(seen(caught(Coins, {"x": [1]}, {"b": (["y"], []), "A": 0, "a": 0})),
                         ("BadFault", {"name": "b"}))

    def test_a_coin_and_a_fault_may_have_one_name(self):
        coins = Coins({"x": [HALF, HALF]}, {"x": (["x"], [[1]])})
        self.assertEqual(coins.world(), World(["x"], {(): HALF, ("x",): HALF}))

    def test_lists_for_tuples_and_copies(self):
        told, faults = {"x": [[1, 2], [1, 2]]}, {"a": [["x"], ((0,), [0], (0,))]}
        coins = Coins(faults=faults, coins=told)
        self.assertEqual(repr((told, faults)), "({'x': [[1, 2], [1, 2]]}, {'a': [['x'], ((0,), [0], (0,))]})")
        self.assertEqual(coins.world(), Coins({"x": ((1, 2), (1, 2))}, {"a": (("x",), [(0,)])}).world())
        told["x"][0][0] = 0
        told["x"].append(0)
        told["y"] = [1]
        faults["a"][1][1][0] = 1
        faults["a"][0].clear()
        faults["a"].clear()
        faults.clear()
        for _ in range(2):
            self.assertEqual(coins.world(), World(["a"], {(): HALF, ("a",): HALF}))
            self.assertEqual(coins.settings(), [{"x": 0}, {"x": 1}])
            coins.settings()[0].clear()
            coins.settings().clear()
            coins.way_out()["x"] = 0
            coins.happening({"x": 0}).append("b")
            self.assertEqual([coins.way_out(), coins.happening({"x": 0})], [{"x": 1}, ["a"]])


class SettingsTest(unittest.TestCase):

    def test_in_order(self):
        self.assertEqual(repr(PLAIN.settings()),
                         "[{'x': 0, 'y': 0}, {'x': 0, 'y': 1}, {'x': 1, 'y': 0}, {'x': 1, 'y': 1}, "
                         "{'x': 2, 'y': 0}, {'x': 2, 'y': 1}]")
        self.assertEqual(Coins({}, {}).settings(), [{}])
        self.assertEqual(Coins({"x": [0, 1, 0]}, {}).settings(), [{"x": 0}, {"x": 1}, {"x": 2}])
        three = Coins({name: [(1, 3)] * 3 for name in "cab"}, {}).settings()
        self.assertEqual([list(setting.items()) for setting in three],
                         [[("a", one), ("b", two), ("c", three)] for one, two, three in product(range(3), repeat=3)])

    def test_happening(self):
        self.assertEqual([PLAIN.happening(setting) for setting in PLAIN.settings()],
                         [["a"], ["a"], [], [], ["b"], ["b"]])
        self.assertEqual(PLAIN.happening(setting={"y": 1, "x": 2}), ["b"])
        always = Coins({}, {"b": ([], [[]]), "a": ([], ((), [])), "c": ([], [])})
        self.assertEqual([always.happening({}), always.world(), always.way_out()],
                         [["a", "b"], World(["a", "b", "c"], {("a", "b"): 1}), None])
        order = Coins({"x": [HALF, HALF], "y": [HALF, HALF]}, {"a": (["y", "x"], [[0, 1]])})
        self.assertEqual([order.happening({"x": 1, "y": 0}), order.happening({"x": 0, "y": 1})], [["a"], []])

    def test_happening_by_the_words(self):
        for coins, faults in some_coins(71, 60):
            told = Coins(coins, faults)
            wanted = [setting for setting, _ in settings_by_words(coins)]
            self.assertEqual(list(map(repr, told.settings())), list(map(repr, wanted)))
            for setting in wanted:
                self.assertEqual(told.happening(setting), happening_by_words(faults, setting))

    def test_what_is_no_setting(self):
        things = (*ODD_THINGS, {"x": 0}, {"y": 0}, {"x": 0, "y": 2}, {"x": 3, "y": 0}, {"x": -1, "y": 0},
                  {"x": True, "y": 0},
                  {"x": 0, "y": False}, {"x": 0, "y": 0, "z": 0}, {"x": 0, "z": 0}, {"x": None, "y": 0},
                  {"x": "0", "y": 0},
                  {"x": [0], "y": 0}, {"x": (0,), "y": 0}, {"x": {}, "y": 0}, {0: 0, 1: 0}, {None: 0, ("y",): 0},
                  [("x", 0), ("y", 0)],
                  [0, 0], (0, 0), "00", {"x": 0, "y": System({})}, {"x": 10 ** 29, "y": 0}, [{"x": 0, "y": 0}], PLAIN,
                  {"x": 0, "Y": 0})
        for thing in things:
            self.assertEqual(seen(caught(PLAIN.happening, thing)), ("BadSetting", {}))
        for thing in (None, [], (), {"x": 0}, 0, False):
            self.assertEqual(seen(caught(Coins({}, {}).happening, thing)), ("BadSetting", {}))


class WorldTest(unittest.TestCase):

    def test_examples(self):
        self.assertEqual(PLAIN.world(), World(["a", "b", "c"], {(): (1, 3), ("a",): (1, 3), ("b",): (1, 3)}))
        self.assertEqual(PLAIN.system(), System({"a": (1, 3), "b": (1, 3), "c": 0}, [("a", "b")]))
        self.assertEqual([Coins({}, {}).world(), Coins({}, {}).system(), Coins({}, {}).way_out()],
                         [World([], {(): 1}), System({}), {}])

    def test_linked_by_what_stands_in_the_lists(self):
        coins = Coins({"x": [1], "y": [HALF, HALF]}, {"a": (["x", "y"], []), "b": (["x"], [[0]]), "c": (["y"], [[1]]),
                                                      "d": ([], [[]])})
        self.assertEqual(coins.system(), System({"a": 0, "b": 1, "c": HALF, "d": 1}, [("a", "b"), ("a", "c")]))

    def test_by_the_words(self):
        safe = []
        for coins, faults in some_coins(72, 120):
            told = Coins(coins, faults)
            shares = {frozenset(some): Fraction(0) for some in all_sets(sorted(faults))}
            wanted = None
            for setting, share in settings_by_words(coins):
                happening = happening_by_words(faults, setting)
                shares[frozenset(happening)] += share
                if share and not happening and wanted is None:
                    wanted = setting
            world, system = told.world(), told.system()
            self.assertEqual(world.names(), sorted(faults))
            self.assertEqual(shares_of(world), {some: share for some, share in shares.items() if share})
            self.assertEqual(repr(told.way_out()), repr(wanted))
            links = [(one, two) for one in faults for two in faults
                     if one < two and set(faults[one][0]) & set(faults[two][0])]
            self.assertEqual(system, System({name: pair(sum([share for some, share in shares.items() if name in some]))
                                             for name in faults}, links))
            self.assertIs(fits_groups(system, world), True)
            safe.append(is_safe(system))
            self.assertFalse(safe[-1] and wanted is None)
        self.assertTrue(min(safe.count(True), safe.count(False)) > 20)

    def test_sides_that_never_come_up(self):
        coins = Coins({"x": [0, HALF, HALF], "y": [1, 0]}, {"a": (["x"], [[1]]), "b": (["y"], [[1]])})
        self.assertEqual([len(coins.settings()), coins.way_out(), coins.happening({"x": 0, "y": 1})],
                         [6, {"x": 2, "y": 0}, ["b"]])
        self.assertEqual([coins.world(), coins.system()],
                         [World(["a", "b"], {(): HALF, ("a",): HALF}), System({"a": HALF, "b": 0})])
        never = Coins({"x": [0, 1]}, {"a": (["x"], [[1]])})
        self.assertIsNone(never.way_out())
        self.assertEqual(never.happening({"x": 0}), [])

    def test_rows_told_twice(self):
        once = Coins(FAIR, {"a": (["x", "y"], [[0, 0], [1, 1]])})
        twice = Coins(FAIR, {"a": (("x", "y"), [[1, 1], (0, 0), [0, 0], (1, 1)])})
        self.assertEqual([once.world(), once.throws(["a"])], [twice.world(), twice.throws(["a"])])
        self.assertEqual(once.system(), System({"a": (1, 3)}))

    def test_thirty_figures(self):
        bottom = 10 ** 30 - 1
        coins = Coins({name: [(1, bottom), (bottom - 1, bottom)] for name in "xyz"},
                      {"a": (["x", "y", "z"], [[0, 0, 0]]), "b": (["x", "y"], [[1, 1]])})
        self.assertEqual(coins.world()[["a"]], (1, bottom ** 3))
        self.assertEqual(Fraction(*coins.world().none()), 1 - Fraction(1, bottom ** 3) - Fraction((bottom - 1) ** 2,
                                                                                                  bottom ** 2))


if __name__ == "__main__":
    unittest.main()

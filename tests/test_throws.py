"""Points 38 and 39: throwing anew, and how often at most."""

import unittest
from fractions import Fraction
from itertools import permutations, product
from math import prod

from helper import (ODD_THINGS, by_chance, caught, least_by_words, linked, pair, safe_by_words, seen, some_coins,
                    some_systems,
                    sum_by_words)
from linkedfaults.coins import Coins, throws_bound
from linkedfaults.mending import too_much
from linkedfaults.sums import is_safe
from linkedfaults.systems import System

HALF = (1, 2)
THIRDS = [(1, 3), (1, 3), (1, 3)]
HOUSE = System({"a": (1, 3), "b": (1, 4), "c": (1, 3)}, [("a", "b"), ("b", "c")])
# The neighbours differ if two coins in a row lie alike.
ROW = Coins({"x": THIRDS, "y": THIRDS, "z": THIRDS},
            {"a": (["x", "y"], [[k, k] for k in range(3)]), "b": (["y", "z"], [[k, k] for k in range(3)])})


class Throwing:
    """A second reckoning: settings as rows of sides, and for each one how often from there on each fault is first."""

    def __init__(self, coins, faults, order):
        self.names = sorted(coins)
        self.shares = {name: [Fraction(*share) for share in sides] for name, sides in coins.items()}
        self.faults, self.order = faults, order
        sides = [[k for k, share in enumerate(self.shares[name]) if share] for name in self.names]
        self.rows = list(product(*sides))

    def first(self, row):
        lies = dict(zip(self.names, row))
        for name in self.order:
            if [lies[coin] for coin in self.faults[name][0]] in [list(bad) for bad in self.faults[name][1]]:
                return name
        return None

    def next_ones(self, row):
        """The rows that a row becomes, with their chances; {} if nothing happens in it."""
        name = self.first(row)
        if name is None:
            return {}
        thrown = [coin in self.faults[name][0] for coin in self.names]
        found = {}
        for other in self.rows:
            if all(anew or one == two for anew, one, two in zip(thrown, row, other)):
                found[other] = prod([self.shares[coin][side] for coin, side,
                                     anew in zip(self.names, other, thrown) if anew],
                                    start=Fraction(1))
        return found

    def ends(self):
        """Whether from each row one comes about in which nothing happens."""
        for row in self.rows:
            found, seen_rows = [row], {row}
            while found and self.first(found[-1]) is not None:
                new = [other for other in self.next_ones(found.pop()) if other not in seen_rows]
                seen_rows.update(new)
                found = new + found
            if not found:
                return False
        return True

    def averages(self):
        """For each fault, the average from the start on, by the equations of what is still to come."""
        loud = [row for row in self.rows if self.first(row) is not None]
        matrix = [[Fraction(int(one == two)) - self.next_ones(one).get(two, 0) for two in loud]
                  + [Fraction(int(self.first(one) == name)) for name in self.order] for one in loud]
        for at in reversed(range(len(loud))):
            best = next(k for k in range(at, -1, -1) if matrix[k][at])
            matrix[at], matrix[best] = matrix[best], matrix[at]
            matrix[at] = [number / matrix[at][at] for number in matrix[at]]
            for k in range(len(loud)):
                if k != at and matrix[k][at]:
                    matrix[k] = [one - matrix[k][at] * two for one, two in zip(matrix[k], matrix[at])]
        starts = [prod([self.shares[coin][side] for coin, side in zip(self.names, row)],
                       start=Fraction(1)) for row in loud]
        return {name: sum([start * told[len(loud) + k] for start, told in zip(starts, matrix)], Fraction(0))
                for k, name in enumerate(self.order)}


class ThrowsTest(unittest.TestCase):

    def test_one_fault(self):
        for share, wanted in (((1, 2), (1, 1)), ((1, 3), (1, 2)), ((3, 4), (3, 1)), ((0, 1), (0, 1)),
                              ((10 ** 29, 10 ** 29 + 1), (10 ** 29, 1))):
            coins = Coins({"x": [share, (share[1] - share[0], share[1])]}, {"a": (["x"], [[0]])})
            self.assertEqual(coins.throws(["a"]), {"a": wanted})

    def test_faults_that_have_nothing_to_do_with_one_another(self):
        coins = Coins({"x": [HALF, HALF], "y": THIRDS}, {"b": (["x"], [[0]]), "a": (["y"], [[0], [2]]), "c": ([], [])})
        for order in permutations("abc"):
            self.assertEqual(repr(coins.throws(order)), "{'a': (2, 1), 'b': (1, 1), 'c': (0, 1)}")

    def test_the_order_counts(self):
        self.assertEqual([ROW.throws(["a", "b"]), ROW.throws(["b", "a"])],
                         [{"a": (3, 4), "b": (1, 2)}, {"a": (1, 2), "b": (3, 4)}])
        self.assertEqual([ROW.throws(order=("b", "a")), ROW.throws(["b", "a"])], [{"a": (1, 2), "b": (3, 4)}] * 2)

    def test_nothing_to_throw(self):
        self.assertEqual([Coins({}, {}).throws([]), Coins({"x": [1]}, {}).throws(()),
                          Coins({}, {"a": ([], [])}).throws(["a"])],
                         [{}, {}, {"a": (0, 1)}])

    def test_by_the_second_reckoning(self):
        chance, ended, went_on, bounded = by_chance(81), 0, 0, 0
        for coins, faults in some_coins(82, 130):
            told = Coins(coins, faults)
            system = told.system()
            safe = is_safe(system)
            for order in chance.sample(list(permutations(faults)), 1) + [tuple(sorted(faults))]:
                wanted = Throwing(coins, faults, order)
                if not wanted.ends():
                    went_on += 1
                    self.assertEqual(seen(caught(told.throws, list(order))), ("NoEnd", {}))
                    self.assertFalse(safe)
                    continue
                ended += 1
                throws = told.throws(list(order))
                self.assertEqual(list(throws), sorted(faults))
                self.assertEqual(throws, {name: pair(number) for name, number in wanted.averages().items()})
                self.assertEqual(throws, told.throws(order))
                for name in faults if safe else ():
                    bounded += 1
                    self.assertTrue(Fraction(*throws[name]) <= Fraction(*throws_bound(system, name)))
        self.assertTrue(min(ended, went_on, bounded) > 40, (ended, went_on, bounded))

    def test_no_order(self):
        things = (*ODD_THINGS, ["a"], ["a", "a"], ["a", "b", "b"], ["a", "b", "c"], ["a", "c"], "ab", {"a": 0, "b": 1},
                  [["a"], ["b"]],
                  ["a", None], [["a", "b"]], [0, 1], (), ["b", ("a",)], ["a", System({})], ROW, ("A", "B"))
        for thing in things:
            self.assertEqual(seen(caught(ROW.throws, thing)), ("BadOrder", {}))
        for thing in (*ODD_THINGS, ["a"], {}, "", 0):
            if thing not in ([], ()):
                self.assertEqual(seen(caught(Coins({}, {}).throws, thing)), ("BadOrder", {}))
        self.assertEqual(seen(caught(Coins({}, {"a": ([], [[]])}).throws, ["b"])), ("BadOrder", {}))

    def test_no_end(self):
        both = {"x": [HALF, HALF], "y": [HALF, HALF]}
        ever = [Coins({}, {"a": ([], [[]])}), Coins({"x": [HALF, HALF]}, {"a": (["x"], [[0], [1]])}),
                Coins({"x": [0, 1]}, {"a": (["x"], [[1]])}), Coins(both,
                                                                   {"a": (["x"], [[0]]), "b": (["y"], [[0], [1]])}),
                Coins(both, {"a": (["x"], [[1]]), "b": (["y", "x"], [[0, 0], [1, 0]])}),
                Coins(both, {"a": (["x"], [[0]]), "b": ([], [[]])})]
        for coins in ever:
            order = coins.world().names()
            self.assertEqual(seen(caught(coins.throws, order)), ("NoEnd", {}))
            self.assertEqual(seen(caught(coins.throws, order[::-1])), ("NoEnd", {}))

    def test_an_end_that_comes_up_seldom(self):
        seldom = [(10 ** 29, 10 ** 29 + 1), (1, 10 ** 29 + 1)]
        coins = Coins({"x": seldom, "y": seldom}, {"a": (["x"], [[0]]), "b": (["x", "y"], [[1, 0]])})
        for order in (["a", "b"], ["b", "a"]):
            wanted = Throwing({"x": seldom, "y": seldom}, {"a": (["x"], [[0]]), "b": (["x", "y"], [[1, 0]])}, order)
            self.assertEqual(coins.throws(order), {name: pair(number) for name, number in wanted.averages().items()})
            self.assertTrue(Fraction(*coins.throws(order)["a"]) > 10 ** 29)
        # A side that never comes up brings no end, and one that never comes up is no way to go on for ever.
        self.assertEqual(seen(caught(Coins({"x": [1, 0]}, {"a": (["x"], [[0]])}).throws, ["a"])), ("NoEnd", {}))
        self.assertEqual(Coins({"x": [1, 0]}, {"a": (["x"], [[1]])}).throws(["a"]), {"a": (0, 1)})

    def test_what_stands_first_saves_the_other_one(self):
        coins = Coins({"x": [HALF, HALF], "y": [HALF, HALF]},
                      {"a": (["y", "x"], [[0, 0], [1, 0]]), "b": (["x"], [[0]])})
        self.assertEqual([coins.throws(["a", "b"]), coins.throws(["b", "a"])],
                         [{"a": (1, 1), "b": (0, 1)}, {"a": (0, 1), "b": (1, 1)}])

    def test_thirty_figures(self):
        chance = by_chance(83)
        coins = {}
        for name in "xyz":
            bottom = chance.randint(10 ** 29, 10 ** 30 - 1)
            tops = [chance.randint(bottom // 5, bottom // 3) for _ in range(2)]
            coins[name] = [(top, bottom) for top in tops] + [(bottom - sum(tops), bottom)]
        faults = {"a": (["x", "y"], [[0, 0], [1, 1]]), "b": (["y", "z"], [[0, 2], [1, 0], [2, 2]]),
                  "c": (["z", "x"], [[1, 0], [2, 1]]), "d": (["y"], [[0]]), "e": (["z"], [[1]])}
        for order in ("abcde", "edcba", "cadbe"):
            wanted = Throwing(coins, faults, order).averages()
            self.assertEqual(Coins(coins, faults).throws(list(order)),
                             {name: pair(wanted[name]) for name in sorted(wanted)})


class ThrowsBoundTest(unittest.TestCase):

    def test_examples(self):
        self.assertEqual([throws_bound(HOUSE, name) for name in "abc"], [(8, 7), (9, 7), (8, 7)])
        self.assertEqual([throws_bound(System({"a": (1, 3)}), "a"), throws_bound(System({"a": 0, "b": HALF}), "a")],
                         [(1, 2), (0, 1)])
        self.assertEqual(throws_bound(name="b", system=HOUSE), (9, 7))

    def test_by_the_words(self):
        told = []
        for system in some_systems(84, 60, 6):
            safe = safe_by_words(system, list(system))
            told.append(safe)
            for name in system:
                if not safe:
                    self.assertEqual(seen(caught(throws_bound, system, name)),
                                     ("Unsafe", {"some": too_much(system)[0]}))
                    continue
                apart = [other for other in system if other != name and not linked(system, name, other)]
                wanted = Fraction(*system[name]) * sum_by_words(system, apart) / least_by_words(system, list(system))
                self.assertEqual(throws_bound(system, name), pair(wanted))
        self.assertTrue(min(told.count(True), told.count(False)) > 8)

    def test_errors(self):
        unsafe = System({"a": HALF, "b": HALF, "c": HALF, "d": 1}, [("a", "b"), ("b", "c")])
        for thing in (*ODD_THINGS, "e", "f", ["a"], ("a",), 0):
            for system in (unsafe, HOUSE):
                if thing not in list(system):
                    error = caught(throws_bound, system, thing)
                    self.assertEqual(seen(error), ("NoFault", {"name": thing}))
        self.assertEqual(seen(caught(throws_bound, unsafe, "a")), ("Unsafe", {"some": ("d",)}))
        self.assertEqual(seen(caught(throws_bound, unsafe - ["d"], "c")), ("Unsafe", {"some": ("a", "b")}))
        self.assertEqual(seen(caught(throws_bound, HOUSE.changed("b", HALF), "c")),
                         ("Unsafe", {"some": ("a", "b", "c")}))


if __name__ == "__main__":
    unittest.main()

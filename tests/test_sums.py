"""Points 16 to 20: free sums, safe faults, the least chance, and the worlds that come down to it."""

import unittest
from fractions import Fraction
from itertools import combinations

from helper import (ODD_THINGS, all_sets, by_chance, caught, least_by_words, long_share, long_system, pair,
                    random_share, random_system, safe_by_words, seen, some_systems, sum_by_words)
from linkedfaults.errors import BadShare, NoFault
from linkedfaults.fitting import fits, fits_groups, fits_loosely, unfit
from linkedfaults.sums import free_sum, is_safe, least_chance, no_way_out, world_with, worst
from linkedfaults.systems import System
from linkedfaults.worlds import World

HOUSE = System({"a": (1, 3), "b": (1, 4), "c": (1, 3)}, [("a", "b"), ("b", "c")])
FULL = HOUSE.changed("b", (1, 2))
HALF = (1, 2)
# Two linked halves: their free sum is just 0, that of no part is below 0.
EDGE = System({"a": HALF, "b": HALF}, [("a", "b")])


class FreeSumTest(unittest.TestCase):

    def test_examples(self):
        self.assertEqual([free_sum(HOUSE, [name]) for name in "abc"], [(2, 3), (3, 4), (2, 3)])
        self.assertEqual([free_sum(HOUSE, ["a", "b"]), free_sum(HOUSE, ("c", "a"))], [(5, 12), (4, 9)])
        self.assertEqual([free_sum(HOUSE), free_sum(HOUSE, None), free_sum(HOUSE, ["c", "b", "a"])], [(7, 36)] * 3)
        self.assertEqual(free_sum(FULL), (-1, 18))

    def test_edges(self):
        self.assertEqual([free_sum(System({})), free_sum(HOUSE, []), free_sum(HOUSE, ())], [(1, 1)] * 3)
        self.assertEqual([free_sum(System({"a": 0})), free_sum(System({"a": 1}))], [(1, 1), (0, 1)])
        self.assertEqual([free_sum(EDGE), free_sum(EDGE.untied("a", "b"))], [(0, 1), (1, 4)])
        self.assertEqual(free_sum(System({"a": 1, "b": 1}, [("a", "b")])), (-1, 1))
        self.assertEqual(free_sum(HOUSE, ["a", "c", "a", "c", "c"]), (4, 9))

    def test_by_the_words(self):
        for system in some_systems(16, 40, 6):
            for some in all_sets(list(system)):
                self.assertEqual(free_sum(system, list(some)), pair(sum_by_words(system, some)))
            self.assertEqual(free_sum(system), pair(sum_by_words(system, list(system))))

    def test_eight_faults_told_at_length(self):
        chance = by_chance(17)
        for top in (1, 3, 12):
            system = long_system(chance, "abcdefgh", top)
            self.assertEqual(free_sum(system), pair(sum_by_words(system, "abcdefgh")))
            self.assertEqual(least_chance(system), pair(least_by_words(system, "abcdefgh")))
        bottom = 10 ** 29
        thin = System({"a": (1, 2), "b": (bottom // 2 - 1, bottom)}, [("a", "b")])
        self.assertEqual((least_chance(thin), is_safe(thin)), ((1, bottom), True))
        self.assertIs(is_safe(thin.changed("b", (bottom // 2, bottom))), False)

    def test_no_fault_of_any_object(self):
        for work in (free_sum, is_safe, least_chance):
            for thing in ODD_THINGS + ("d", ["a"], 0):
                error = caught(work, HOUSE, ["a", thing, "e"])
                self.assertIsInstance(error, NoFault)
                self.assertEqual(error.name, thing)
            self.assertEqual(seen(caught(work, names=("e", "d"), system=HOUSE)), ("NoFault", {"name": "e"}))


class SafeTest(unittest.TestCase):

    def test_examples(self):
        self.assertEqual([is_safe(HOUSE), is_safe(HOUSE, None), is_safe(FULL)], [True, True, False])
        self.assertEqual([is_safe(FULL, ["a", "b", "a"]), is_safe(FULL, ("a", "c"))], [True, True])
        self.assertEqual([least_chance(HOUSE), least_chance(HOUSE, ["c", "a", "c"])], [(7, 36), (4, 9)])
        self.assertEqual([least_chance(FULL), least_chance(FULL, ["a", "b"])], [(0, 1), (1, 6)])

    def test_edges(self):
        self.assertEqual([is_safe(System({})), is_safe(FULL, []), least_chance(System({})), least_chance(FULL, [])],
                         [True, True, (1, 1), (1, 1)])
        self.assertEqual([is_safe(System({"a": 0})), least_chance(System({"a": 0}))], [True, (1, 1)])
        self.assertEqual([is_safe(System({"a": 1})), least_chance(System({"a": 1}))], [False, (0, 1)])
        self.assertEqual([is_safe(EDGE), least_chance(EDGE)], [False, (0, 1)])
        self.assertEqual(repr([is_safe(EDGE), is_safe(HOUSE)]), "[False, True]")

    def test_a_part_may_be_unsafe_though_the_free_sum_is_above_0(self):
        # Two pairs with a free sum below 0 each, so that the product is above 0.
        one = System({"a": 1, "b": 1}, [("a", "b")])
        other = System({"c": 1, "d": (3, 4)}, [("c", "d")])
        self.assertEqual([free_sum(one + other), is_safe(one + other), least_chance(one + other)],
                         [(3, 4), False, (0, 1)])
        self.assertEqual([free_sum(one + System({"e": 1})), free_sum(one), is_safe(one)], [(0, 1), (-1, 1), False])

    def test_by_the_words(self):
        told = []
        for system in some_systems(18, 60, 6):
            told.append(is_safe(system))
            self.assertIs(told[-1], safe_by_words(system, list(system)))
            self.assertEqual(least_chance(system), pair(least_by_words(system, list(system))))
            for some in all_sets(list(system))[::5]:
                self.assertIs(is_safe(system, some), safe_by_words(system, some))
                self.assertEqual(least_chance(system, some), pair(least_by_words(system, some)))
        self.assertTrue(min(told.count(True), told.count(False)) > 7)

    def test_no_world_that_fits_comes_below_it(self):
        chance = by_chance(19)
        for system in some_systems(20, 40, 5):
            links = [link for link in system.links() if chance.random() < 0.7]
            part = System({name: pair(Fraction(*system[name]) * Fraction(*random_share(chance)))
                           for name in system}, links)
            world = no_way_out(part) or worst(part)
            self.assertTrue(fits(system, world) and fits_loosely(system, world))
            for some in all_sets(list(system)):
                self.assertTrue(Fraction(*world.none(some)) >= Fraction(*least_chance(system, some)))


class FactsTest(unittest.TestCase):

    def test_a_fault_less(self):
        for system in some_systems(21, 30, 6):
            for name in system:
                rest = system - [name]
                far = rest - system.near(name)
                wanted = Fraction(*free_sum(rest)) - Fraction(*system[name]) * Fraction(*free_sum(far))
                self.assertEqual(free_sum(system), pair(wanted))

    def test_more_is_never_better_for_safe_faults(self):
        chance = by_chance(22)
        for system in some_systems(23, 60, 5):
            names = list(system)
            if len(names) < 2:
                continue
            one, other = chance.sample(names, 2)
            fewer = (system - [one], system.untied(one, other), system.changed(one, 0),
                     system.changed(one, pair(Fraction(*system[one]) / 2)))
            for less in fewer:
                if is_safe(system):
                    self.assertTrue(is_safe(less))
                    self.assertTrue(Fraction(*free_sum(system)) <= Fraction(*free_sum(less)))

    def test_new_systems_of_two(self):
        chance = by_chance(24)
        for _ in range(40):
            size = chance.choice((HALF, (1, 4), 1))
            one, other = (random_system(chance, names).scaled(size) for names in ("abc", "xyz"))
            self.assertEqual(least_chance(one + other),
                             pair(Fraction(*least_chance(one)) * Fraction(*least_chance(other))))
            self.assertEqual(free_sum(one * other), pair(Fraction(*free_sum(one)) + Fraction(*free_sum(other)) - 1))

    def test_a_fault_that_is_split(self):
        for system in some_systems(25, 30, 4):
            for name in system:
                share = Fraction(*system[name])
                new = system.split(name, {"x": pair(share / 3), "y": pair(share / 6), "z": pair(share / 2)})
                for some in all_sets([other for other in system if other != name]):
                    self.assertEqual(free_sum(new, [*some, "x", "y", "z"]), free_sum(system, [*some, name]))

    def test_without_links_and_with_all(self):
        chance = by_chance(26)
        for many in range(9):
            shares = {name: long_share(chance, many + 1) for name in "abcdefgh"[:many]}
            product, total = Fraction(1), Fraction(0)
            for share in shares.values():
                product *= 1 - Fraction(*share)
                total += Fraction(*share)
            self.assertEqual(least_chance(System(shares)), pair(product))
            tied = System(shares, list(combinations(shares, 2)))
            self.assertEqual(least_chance(tied), pair(1 - total))
        thirds = System({name: (1, 3) for name in "abcd"}, list(combinations("abcd", 2)))
        self.assertEqual([least_chance(thirds), free_sum(thirds)], [(0, 1), (-1, 3)])


class WorstTest(unittest.TestCase):

    def check(self, system, world):
        """That this is the world of point 18."""
        names = list(system)
        for some in all_sets(names):
            free = not any(pair in system.links() for pair in combinations(some, 2))
            rest = [name for name in names if name not in some and not set(system.near(name)) & set(some)]
            share = Fraction(0)
            if free:
                share = sum_by_words(system, rest)
                for name in some:
                    share *= Fraction(*system[name])
            self.assertEqual(world[some], pair(share))
            self.assertEqual(world.none(some), free_sum(system, some))
        for name in names:
            self.assertEqual(world.chance([name]), system[name])

    def test_examples(self):
        self.assertEqual(list(worst(HOUSE).outcomes().items()),
                         [((), (7, 36)), (("a",), (2, 9)), (("b",), (1, 4)), (("c",), (2, 9)), (("a", "c"), (1, 9))])
        self.assertEqual(worst(System({})), World([], {(): 1}))
        self.assertEqual(worst(System({"b": 0, "a": 1})), World(["a", "b"], {("a",): 1}))
        self.assertEqual(worst(EDGE), World(["a", "b"], {("a",): HALF, ("b",): HALF}))
        self.assertEqual(worst(System({"a": (1, 3), "b": HALF})),
                         World("ab", {(): (1, 3), ("a",): (1, 6), ("b",): (1, 3), ("a", "b"): (1, 6)}))

    def test_unsafe_tells_the_first_part_below_0(self):
        self.assertEqual(seen(caught(worst, FULL)), ("Unsafe", {"some": ("a", "b", "c")}))
        ones = System({name: 1 for name in "abcd"}, [("d", "c"), ("b", "c")])
        self.assertEqual(seen(caught(worst, system=ones)), ("Unsafe", {"some": ("b", "c")}))
        # The free sums of a and of b and d are just 0, which is not below 0.
        mixed = System({"a": 1, "b": HALF, "c": (2, 3), "d": HALF}, [("b", "d"), ("c", "d")])
        self.assertEqual([free_sum(mixed, ["a"]), free_sum(mixed, ["b", "d"])], [(0, 1), (0, 1)])
        self.assertEqual(caught(worst, mixed).some, ("c", "d"))

    def test_by_the_words(self):
        told = []
        for system in some_systems(27, 60, 5):
            below = [some for some in all_sets(list(system)) if sum_by_words(system, some) < 0]
            told.append(not below)
            if below:
                self.assertEqual(seen(caught(worst, system)), ("Unsafe", {"some": below[0]}))
            else:
                world = worst(system)
                self.check(system, world)
                self.assertTrue(fits_groups(system, world) and fits(system, world))
        self.assertTrue(min(told.count(True), told.count(False)) > 7)

    def test_eight_faults(self):
        chance = by_chance(28)
        system = long_system(chance, "abcdefgh", 12)
        world = worst(system)
        self.assertEqual(world.none(), free_sum(system))
        for some in all_sets("abcdefgh")[::7]:
            self.assertEqual(world.none(some), free_sum(system, some))


class WorldWithTest(unittest.TestCase):

    def check(self, system, chance):
        world = world_with(system, chance)
        self.assertIsNone(unfit(system, world))
        self.assertEqual(world.none(), pair(Fraction(*chance)))
        # The least chance is the same for worlds that fit by groups.
        self.assertTrue(fits_groups(system, world))

    def test_examples(self):
        for chance in ((7, 36), (1, 5), HALF, (35, 36), (2, 3), (4, 9), (1, 1)):
            self.check(HOUSE, chance)
        for chance in ((0, 1), (6, 36), (7, 37), (7 * 10 ** 27 - 1, 36 * 10 ** 27)):
            self.assertIsNone(world_with(HOUSE, chance))
        for chance in ((0, 1), (1, 100), HALF, (99, 100), (1, 1)):
            self.check(FULL, chance)
            self.check(EDGE, chance)
        self.assertEqual(world_with(HOUSE, [14, 72]), world_with(HOUSE, (7, 36)))

    def test_edges(self):
        empty, never = System({}), System({"a": 0, "b": 0})
        self.assertEqual(world_with(empty, 1), World([], {(): 1}))
        self.assertEqual([world_with(empty, 0), world_with(empty, HALF)], [None, None])
        self.assertEqual([world_with(never, 1), world_with(never, (99, 100))], [World.quiet("ab"), None])
        self.assertEqual(world_with(System({"a": 1}), 0), World(["a"], {("a",): 1}))
        self.assertEqual(world_with(HOUSE, 1).none(), (1, 1))
        # The free sum is just 0 with a alone, and with all of them, but below 0 with b and c.
        ones = System({"a": 1, "b": 1, "c": 1}, [("b", "c")])
        self.assertEqual([free_sum(ones, ["a"]), free_sum(ones), free_sum(ones, ["b", "c"])], [(0, 1), (0, 1), (-1, 1)])
        for chance in ((0, 1), (1, 3), (1, 1)):
            self.check(ones, chance)

    def test_bad_share_of_any_object(self):
        for thing in ODD_THINGS + (-1, 2, (-1, 2), (3, 2), [3, 2], "1/2"):
            error = caught(world_with, HOUSE, thing)
            self.assertIsInstance(error, BadShare)
            self.assertEqual(error.share, thing)
        self.assertEqual(seen(caught(world_with, chance=2, system=FULL)), ("BadShare", {"share": 2}))

    def test_worlds_with_any_chance(self):
        chance, told = by_chance(29), []
        for system in some_systems(30, 60, 5):
            least = least_by_words(system, list(system))
            told.append(least == 0)
            for part in (Fraction(0), Fraction(1), Fraction(1, 2), Fraction(*long_share(chance, 1))):
                self.check(system, pair(least + (1 - least) * part))
            if least > 0:
                for below in (Fraction(0), least / 2, least - Fraction(1, 10 ** 200)):
                    self.assertIsNone(world_with(system, pair(below)))
        self.assertTrue(min(told.count(True), told.count(False)) > 7)

    def test_no_way_out(self):
        self.assertIsNone(no_way_out(HOUSE))
        self.assertIsNone(no_way_out(System({})))
        for system in (FULL, EDGE, System({"a": 1}), HOUSE + System({"x": 1}), HOUSE.changed("b", (4, 9))):
            world = no_way_out(system=system)
            self.assertEqual((unfit(system, world), world.none()), (None, (0, 1)))
        told = []
        for system in some_systems(31, 80, 5):
            world = no_way_out(system)
            told.append(world is None)
            self.assertIs(world is None, safe_by_words(system, list(system)))
            if world is not None:
                self.assertEqual((unfit(system, world), world.none()), (None, (0, 1)))
        self.assertTrue(min(told.count(True), told.count(False)) > 7)


class ConventionsTest(unittest.TestCase):

    def test_lists_and_tuples_and_calls_by_name(self):
        for work in (free_sum, is_safe, least_chance):
            self.assertEqual(work(names=["a", "c"], system=HOUSE), work(HOUSE, ("c", "a")))
        self.assertEqual(worst(system=HOUSE), worst(HOUSE))
        self.assertEqual(world_with(chance=[1, 2], system=HOUSE), world_with(HOUSE, (2, 4)))
        other = System({"c": [1, 3], "b": [2, 8], "a": (1, 3)}, (["c", "b"], ["b", "a"]))
        self.assertEqual(world_with(other, HALF), world_with(HOUSE, HALF))
        self.assertEqual(no_way_out(FULL), no_way_out(other.changed("b", [2, 4])))

    def test_nothing_passed_is_changed(self):
        names, chance = ["c", "a", "c"], [1, 2]
        before = (HOUSE.shares(), HOUSE.links())
        free_sum(HOUSE, names), is_safe(HOUSE, names), least_chance(HOUSE, names), world_with(HOUSE, chance)
        self.assertEqual((names, chance, (HOUSE.shares(), HOUSE.links())), (["c", "a", "c"], [1, 2], before))
        worst(HOUSE).outcomes().clear()
        self.assertEqual(worst(HOUSE)[()], (7, 36))

    def test_kinds(self):
        self.assertEqual(repr([free_sum(HOUSE), least_chance(FULL), is_safe(FULL)]), "[(7, 36), (0, 1), False]")
        error = caught(worst, FULL)
        self.assertEqual(repr(error.some), "('a', 'b', 'c')")


if __name__ == "__main__":
    unittest.main()

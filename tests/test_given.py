"""Points 21 to 23: chances among other things, and how great shares may be."""

import unittest
from fractions import Fraction
from itertools import combinations

from helper import (ODD_THINGS, all_sets, by_chance, caught, least_by_words, long_system, pair, random_system,
                    safe_by_words, seen, some_systems, sum_by_words)
from linkedfaults.errors import BadNumber, BadShare, NoFault
from linkedfaults.given import greatest_given, greatest_scale, least_given, limit, room
from linkedfaults.sums import free_sum, is_safe, least_chance, no_way_out, worst
from linkedfaults.systems import System

HOUSE = System({"a": (1, 3), "b": (1, 4), "c": (1, 3)}, [("a", "b"), ("b", "c")])
FULL = HOUSE.changed("b", (1, 2))
HALF = (1, 2)
TINY = Fraction(1, 10 ** 40)


def first_unsafe(system, names):
    """The first least unsafe part of names, reckoned by the words; None if there is none."""
    for some in all_sets(names):
        if not safe_by_words(system, some):
            return some
    return None


class GivenTest(unittest.TestCase):

    def test_examples(self):
        self.assertEqual(greatest_given(HOUSE, "b", ["a", "c"]), (9, 16))
        self.assertEqual(least_given(HOUSE, ["b"], ("c", "a")), (7, 16))
        self.assertEqual([least_given(HOUSE, ["a", "b"], ["c"]), greatest_given(HOUSE, "a", ["c"])], [(7, 24), (1, 3)])
        self.assertEqual([least_given(FULL, ["b"], ["a"]), least_given(FULL, ["b"], ["a", "c"])], [(1, 4), (0, 1)])
        self.assertEqual([greatest_given(FULL, "b", ["a"]), greatest_given(FULL, "b", ["a", "c"])], [(3, 4), (1, 1)])

    def test_empty_lists_common_faults_and_names_told_twice(self):
        self.assertEqual([least_given(HOUSE, [], []), least_given(HOUSE, [], ["a", "b"])], [(1, 1), (1, 1)])
        self.assertEqual([least_given(HOUSE, ["a", "b", "c"], []), least_given(FULL, "abc", [])], [(7, 36), (0, 1)])
        self.assertEqual(least_given(HOUSE, ["a", "b"], ["b", "a"]), (1, 1))
        self.assertEqual(least_given(HOUSE, ["b", "a", "b"], ["c", "a", "c"]), (7, 16))
        self.assertEqual([greatest_given(HOUSE, "a", ["a"]), greatest_given(HOUSE, "b", [])], [(0, 1), (1, 4)])
        self.assertEqual(least_given(System({}), [], []), (1, 1))
        self.assertEqual(greatest_given(System({"a": 1}), "a", []), (1, 1))

    def test_both_together_are_just_unsafe(self):
        edge = System({"a": HALF, "b": HALF}, [("a", "b")])
        self.assertEqual([least_given(edge, ["a"], ["b"]), greatest_given(edge, "a", ["b"])], [(0, 1), (1, 1)])

    def test_unsafe(self):
        told = seen(caught(least_given, FULL, ["a"], ["c", "b", "a", "b"]))
        self.assertEqual(told, ("Unsafe", {"some": ("a", "b", "c")}))
        system = System({"a": (1, 3), "b": HALF, "c": HALF, "d": (2, 3), "e": 1}, [("b", "c"), ("a", "d")])
        # The free sums of these are just 0, which is not safe.
        for given, some in (("abcd", ("a", "d")), ("cba", ("b", "c")), ("abcde", ("e",)), ("dcba", ("a", "d"))):
            for names in ([], ["e"], ["a", "b"]):
                self.assertEqual(seen(caught(least_given, system, names, list(given))), ("Unsafe", {"some": some}))
            self.assertEqual(seen(caught(greatest_given, system, "b", list(given))), ("Unsafe", {"some": some}))
        # Those below 0 do not come ahead of those that are just 0.
        mixed = System({"a": HALF, "b": HALF, "c": 1, "d": (1, 5)}, [("a", "b"), ("c", "d")])
        self.assertEqual(caught(least_given, mixed, [], ["d", "c", "b", "a"]).some, ("c",))
        self.assertEqual(least_given(system, ["e"], ["a", "b"]), (0, 1))

    def test_no_fault_in_names_then_in_given_then_unsafe(self):
        for thing in ODD_THINGS + ("d", ["a"], 0):
            for told in ((["a", thing, "e"], ["f"]), (["a"], ["a", "b", "c", thing, "e"])):
                error = caught(least_given, FULL, *told)
                self.assertIsInstance(error, NoFault)
                self.assertEqual(error.name, thing)
            for told in ((thing, ["f", "g"]), ("a", ["a", "b", "c", thing, "e"])):
                error = caught(greatest_given, FULL, *told)
                self.assertIsInstance(error, NoFault)
                self.assertEqual(error.name, thing)

    def test_by_the_words(self):
        chance, told = by_chance(32), []
        for system in some_systems(33, 80, 5):
            names, given = (chance.choice(all_sets(list(system))) for _ in range(2))
            both = sorted({*names, *given})
            if not safe_by_words(system, given):
                told.append("Unsafe")
                wanted = ("Unsafe", {"some": first_unsafe(system, given)})
                self.assertEqual(seen(caught(least_given, system, names, given)), wanted)
                continue
            told.append(safe_by_words(system, both))
            wanted = least_by_words(system, both) / sum_by_words(system, given)
            self.assertEqual(least_given(system, list(names), list(given)), pair(wanted))
            for name in system:
                least = least_by_words(system, sorted({name, *given})) / sum_by_words(system, given)
                self.assertEqual(greatest_given(system, name, given), pair(1 - least))
        self.assertTrue(min(told.count(kind) for kind in ("Unsafe", True, False)) > 3)

    def test_no_world_that_fits_comes_below_it_and_one_comes_down_to_it(self):
        chance = by_chance(34)
        for system in some_systems(35, 40, 5):
            names, given = (chance.choice(all_sets(list(system))) for _ in range(2))
            if not is_safe(system, given):
                continue
            least = Fraction(*least_given(system, names, given))
            part = system.scaled(chance.choice(((1, 3), HALF, 1)))
            for world in (no_way_out(part) or worst(part), no_way_out(system) or worst(system)):
                if world.none(given)[0] > 0:
                    self.assertTrue(Fraction(*world.given(given).none([name for name in names if name not in given]))
                                    >= least)
            if is_safe(system):
                self.assertEqual(worst(system).given(given).none([name for name in names if name not in given]),
                                 pair(least))


class LimitTest(unittest.TestCase):

    def test_examples(self):
        self.assertEqual([limit(HOUSE, "b"), limit(FULL, "b"), limit(HOUSE, "a")], [(4, 9), (4, 9), (5, 8)])
        self.assertEqual(limit(FULL, "a"), (1, 4))

    def test_edges(self):
        self.assertEqual([limit(System({"a": 0}), "a"), limit(System({"a": 1}), "a")], [(1, 1), (1, 1)])
        self.assertEqual([limit(System({"a": 1, "b": 0}), "b"), limit(System({"a": 1, "b": 0}), "a")],
                         [(0, 1), (1, 1)])
        self.assertEqual(limit(FULL + System({"x": (1, 9)}), "x"), (0, 1))
        # The others are unsafe, though their free sum is above 0.
        twice = System({name: 1 for name in "abcd"}, [("a", "b"), ("c", "d")]) + System({"x": 0})
        self.assertEqual([free_sum(twice, "abcd"), limit(twice, "x")], [(1, 1), (0, 1)])
        self.assertEqual(limit(HOUSE.changed("a", 0).changed("c", 0), "b"), (1, 1))

    def test_with_it_they_are_not_safe_and_below_it_they_are(self):
        for system in some_systems(36, 50, 6):
            for name in system:
                least = Fraction(*limit(system, name))
                self.assertTrue(0 <= least <= 1)
                self.assertIs(safe_by_words(system.changed(name, pair(least)), list(system)), False)
                self.assertIs(least == 0, not safe_by_words(system.changed(name, 0), list(system)))
                for below in ({least - TINY, least / 2} if least > 0 else ()):
                    self.assertIs(safe_by_words(system.changed(name, pair(below)), list(system)), True)

    def test_no_fault_of_any_object(self):
        for thing in ODD_THINGS + ("d", ["a"], 0):
            error = caught(limit, HOUSE, thing)
            self.assertIsInstance(error, NoFault)
            self.assertEqual(error.name, thing)


class RoomTest(unittest.TestCase):

    def test_examples(self):
        self.assertEqual([room(HOUSE, "b", (1, 9)), room(FULL, "b", (1, 9)), room(HOUSE, "b", (7, 36))],
                         [(1, 3), (1, 3), (1, 4)])
        self.assertEqual([room(HOUSE, "b", (4, 9)), room(HOUSE, "b", (41, 90)), room(HOUSE, "b", 1)],
                         [(0, 1), None, None])

    def test_edges(self):
        one = System({"a": (1, 3)})
        self.assertEqual([room(one, "a", 1), room(one, "a", (1, 10 ** 29))], [(0, 1), (10 ** 29 - 1, 10 ** 29)])
        self.assertIsNone(room(FULL + System({"x": 0}), "x", (1, 10 ** 29)))
        self.assertIsNone(room(System({"a": 1, "b": 0}), "b", HALF))
        twice = System({name: 1 for name in "abcd"}, [("a", "b"), ("c", "d")]) + System({"x": 0})
        self.assertIsNone(room(twice, "x", HALF))

    def test_with_it_the_chance_is_at_least_so_much_and_with_more_it_is_not(self):
        chance, told = by_chance(37), []
        for system in some_systems(38, 60, 6):
            for name in system:
                wanted = Fraction(chance.randint(1, 30), 30)
                share = room(system, name, pair(wanted))
                told.append(share is None)
                if share is None:
                    self.assertTrue(least_by_words(system.changed(name, 0), list(system)) < wanted)
                    continue
                self.assertTrue(least_by_words(system.changed(name, share), list(system)) >= wanted)
                more = system.changed(name, pair(Fraction(*share) + TINY)) if share != (1, 1) else None
                self.assertTrue(more is None or least_by_words(more, list(system)) < wanted)
        self.assertTrue(min(told.count(True), told.count(False)) > 10)

    def test_no_fault_ahead_of_bad_share(self):
        for thing in ODD_THINGS + ("d", ["a"], 0):
            for chance in (HALF, 0, thing):
                error = caught(room, HOUSE, thing, chance)
                self.assertIsInstance(error, NoFault)
                self.assertEqual(error.name, thing)
        for thing in ODD_THINGS + (0, (0, 1), [0, 5], -1, 2, (-1, 2), (3, 2), "1/2"):
            for system in (HOUSE, FULL + System({"b1": 1})):
                error = caught(room, system, "b", thing)
                self.assertIsInstance(error, BadShare)
                self.assertEqual((error.share, error.share.__class__), (thing, thing.__class__))


class ScaleTest(unittest.TestCase):

    def check(self, system, bottom):
        got = greatest_scale(system, bottom)
        self.assertTrue(safe_by_words(system.scaled((got, bottom)), list(system)))
        error = caught(system.scaled, (got + 1, bottom))
        if error is None:
            self.assertIs(safe_by_words(system.scaled((got + 1, bottom)), list(system)), False)
        return got

    def test_examples(self):
        for bottom in (1, 2, 3, 10, 10 ** 29):
            self.check(HOUSE, bottom)
        self.assertEqual([greatest_scale(HOUSE, 1), greatest_scale(FULL, 1), greatest_scale(FULL, 10)], [1, 0, 9])
        self.assertEqual([greatest_scale(System({"a": (1, 3)}), bottom) for bottom in (1, 2, 10)], [2, 5, 29])
        self.assertEqual([greatest_scale(System({"a": 1}), bottom) for bottom in (1, 2, 10)], [0, 1, 9])
        self.assertEqual(greatest_scale(System({"a": (1, 4), "b": (1, 4)}, [("a", "b")]), 5), 9)
        self.assertEqual(greatest_scale(System({"a": (1, 10 ** 29)}), 10 ** 29), 10 ** 58 - 1)

    def test_just_unsafe_or_just_too_great(self):
        self.assertEqual(greatest_scale(System({"a": (2, 3)}), 1), 1)
        self.assertEqual(greatest_scale(System({"a": (2, 3), "b": 0}, [("a", "b")]), 2), 2)
        self.assertEqual(greatest_scale(System({"a": (1, 4), "b": (1, 4)}, [("a", "b")]), 1), 1)

    def test_none_if_all_shares_are_0(self):
        for system in (System({}), System({"a": 0}), System({"a": 0, "b": 0}, [("a", "b")])):
            for bottom in (1, 7, 10 ** 29):
                self.assertIsNone(greatest_scale(system, bottom))

    def test_greatest(self):
        chance = by_chance(39)
        for system in some_systems(40, 50, 5):
            if any(share[0] for share in system.shares().values()):
                self.check(system, chance.choice((1, 2, 7, 100, chance.randint(1, 10 ** 30 - 1))))

    def test_bad_number_of_any_object(self):
        for thing in ODD_THINGS[:-1] + (0, -1, (1, 1), [2, 1], "2", -10 ** 29):
            for system in (HOUSE, System({}), FULL):
                error = caught(greatest_scale, system, thing)
                self.assertIsInstance(error, BadNumber)
                self.assertEqual((error.number, error.number.__class__), (thing, thing.__class__))


class ConventionsTest(unittest.TestCase):

    def test_eight_faults_told_at_length(self):
        chance = by_chance(41)
        system = long_system(chance, "abcdefgh", 14)
        names, given = ["a", "b", "c", "d"], ["h", "g", "f", "e", "d"]
        whole, below = sum_by_words(system, "abcdefgh"), sum_by_words(system, "defgh")
        self.assertEqual(least_given(system, names, given), pair(whole / below))
        others, near = sum_by_words(system, "bcdefgh"), system.near("a")
        far = sum_by_words(system, [name for name in "bcdefgh" if name not in near])
        self.assertEqual(limit(system, "a"), pair(others / far))
        self.assertEqual(room(system, "a", (1, 10 ** 29 + 1)), pair((others - Fraction(1, 10 ** 29 + 1)) / far))
        scale = greatest_scale(system, 10 ** 29 + 3)
        self.assertIs(is_safe(system.scaled((scale, 10 ** 29 + 3))), True)
        self.assertIs(is_safe(system.scaled((scale + 1, 10 ** 29 + 3))), False)

    def test_calls_by_name_and_lists_for_tuples(self):
        self.assertEqual(least_given(given=("c", "a"), names=("b",), system=HOUSE), (7, 16))
        self.assertEqual(greatest_given(given=("c", "a"), name="b", system=HOUSE), (9, 16))
        self.assertEqual([limit(name="b", system=HOUSE), room(chance=[1, 9], name="b", system=HOUSE)],
                         [(4, 9), (1, 3)])
        self.assertEqual(greatest_scale(bottom=1, system=HOUSE), 1)

    def test_nothing_passed_is_changed(self):
        names, given, chance = ["b", "b"], ["c", "a", "c"], [1, 9]
        least_given(HOUSE, names, given), greatest_given(HOUSE, "b", given), room(HOUSE, "b", chance)
        self.assertEqual((names, given, chance), (["b", "b"], ["c", "a", "c"], [1, 9]))

    def test_numbers_that_were_returned_may_be_passed_on(self):
        chance = by_chance(42)
        system = random_system(chance, "abcde").scaled((1, 40))
        for link in combinations("abcde", 2):
            share = room(system.tied(*link), "a", least_chance(system.tied(*link)))
            self.assertEqual(share, system["a"])
            system = system.changed("b", limit(system, "b")).scaled((1, 40))


if __name__ == "__main__":
    unittest.main()

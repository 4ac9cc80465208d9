"""Points 6 to 10: systems, new ones of one and of two, split, free sets."""

import unittest
from fractions import Fraction
from itertools import combinations

from helper import ODD_THINGS, all_sets, by_chance, caught, linked, random_system, seen
from linkedfaults.errors import BadNumber, BadSum, NoFault
from linkedfaults.systems import System, free_sets
from linkedfaults.worlds import World

HOUSE = System({"a": (1, 3), "b": (1, 4), "c": (1, 3)}, [("a", "b"), ("b", "c")])


class SystemTest(unittest.TestCase):

    def test_what_it_tells(self):
        system = System({"c": (1, 3), "a": (2, 6), "b": (1, 4)}, [("c", "b"), ("a", "b"), ("b", "c"), ("b", "a")])
        self.assertEqual(list(system.shares().items()), [("a", (1, 3)), ("b", (1, 4)), ("c", (1, 3))])
        self.assertEqual(system.links(), [("a", "b"), ("b", "c")])
        self.assertEqual([system[name] for name in "abc"], [(1, 3), (1, 4), (1, 3)])
        self.assertEqual([system.near(name) for name in "abc"], [["b"], ["a", "c"], ["b"]])
        self.assertEqual((len(system), list(system)), (3, ["a", "b", "c"]))
        self.assertEqual([name for name in system], ["a", "b", "c"])
        self.assertEqual(system, HOUSE)

    def test_near_ascends_to_both_sides(self):
        links = [("m", "z"), ("m", "b"), ("a", "m"), ("y", "m")]
        system = System({name: 0 for name in "zmyab"}, links)
        self.assertEqual(system.near("m"), ["a", "b", "y", "z"])
        self.assertEqual(system.links(), [("a", "m"), ("b", "m"), ("m", "y"), ("m", "z")])

    def test_empty(self):
        for system in (System({}), System({}, []), System(shares={}, links=())):
            self.assertEqual((system.shares(), system.links(), len(system), list(system)), ({}, [], 0, []))
            self.assertEqual(system, HOUSE - ["a", "b", "c"])
            self.assertFalse("a" in system)
            self.assertIsInstance(caught(system.near, "a"), NoFault)

    def test_share_0_is_a_fault_too(self):
        system = System({"a": 0, "b": (0, 9)}, [("b", "a")])
        self.assertEqual((system.shares(), system.links()), ({"a": (0, 1), "b": (0, 1)}, [("a", "b")]))

    def test_bad_fault_is_the_first_key(self):
        for key in (None, 5, True, "", "A", "toolongname", ("a",), (), ("a", ("b",))):
            self.assertEqual(seen(caught(System, {"a": 1, key: 1, "B": 1})), ("BadFault", {"name": key}))
        for value in ODD_THINGS + ((4, 3), 2, -1):
            self.assertEqual(seen(caught(System, {"a": 1, "b": value, "C": 1})), ("BadFault", {"name": "b"}))
        self.assertEqual(caught(System, {"A": 5, "b": 5}).name, "A")

    def test_bad_link_is_the_first_thing(self):
        shares = {"a": 1, "b": 1, "ab": 1}
        for thing in ODD_THINGS + ("ab", "a", ("a", "a"), ["b", "b"], ("a", "c"), ("c", "a"), ("a", "b", "ab"),
                                   ("a", None), ([], "a"), {"a": 1, "b": 1}, (("a", "b"), "a")):
            links = [("a", "b"), ["ab", "b"], thing, ("c", "c")]
            self.assertEqual(seen(caught(System, shares, links)), ("BadLink", {"index": 2}))
            self.assertEqual(seen(caught(System, shares, tuple(links))), ("BadLink", {"index": 2}))

    def test_bad_link_0_if_it_is_no_list(self):
        for thing in (None, 5, True, "", "ab", {}, {("a", "b"): 1}, System({}), World([], {(): 1})):
            self.assertEqual(seen(caught(System, {"a": 1, "b": 1}, thing)), ("BadLink", {"index": 0}))
        self.assertEqual(System({"a": 1}, ()), System({"a": 1}, []))

    def test_no_fault_of_any_object(self):
        for thing in ODD_THINGS + ("d", "ab", ["a"], ("a", "b"), 0):
            for work in (HOUSE.near, HOUSE.__getitem__):
                error = caught(work, thing)
                self.assertIsInstance(error, NoFault)
                self.assertEqual(error.name, thing)
            self.assertIs(thing in HOUSE, False)
            self.assertIs(thing not in HOUSE, True)
        self.assertEqual(["a" in HOUSE, "c" in HOUSE], [True, True])

    def test_equal(self):
        same = System({"c": [2, 6], "b": (1, 4), "a": (1, 3)}, [["b", "c"], ["b", "a"], ("a", "b")])
        self.assertIs(HOUSE == same, True)
        self.assertIs(HOUSE != same, False)
        unlike = (HOUSE.changed("a", (1, 4)), HOUSE.tied("a", "c"), HOUSE - ["a"], HOUSE.more("d", 0), System({}))
        things = ODD_THINGS + (HOUSE.shares(), HOUSE.links(), ["a", "b", "c"], World.quiet(["a", "b", "c"]))
        for thing in unlike + things:
            self.assertIs(HOUSE == thing, False)
            self.assertIs(HOUSE != thing, True)
            self.assertIs(thing == HOUSE, False)


class NewOfOneTest(unittest.TestCase):

    def test_just_these_and_all_others(self):
        self.assertEqual(HOUSE & ["b", "a"], System({"a": (1, 3), "b": (1, 4)}, [("a", "b")]))
        self.assertEqual(HOUSE & ["a", "c", "a"], System({"a": (1, 3), "c": (1, 3)}))
        self.assertEqual(HOUSE - ["b"], HOUSE & ["a", "c"])
        self.assertEqual(HOUSE - ("a", "a"), HOUSE & ("b", "c"))
        self.assertEqual((HOUSE & ["a", "b", "c"], HOUSE - []), (HOUSE, HOUSE))
        self.assertEqual((HOUSE & [], HOUSE - ["a", "b", "c"]), (System({}), System({})))

    def test_no_fault_is_the_first_thing(self):
        for thing in ODD_THINGS + ("d", ["a"], 0):
            for work in (HOUSE.__and__, HOUSE.__sub__):
                error = caught(work, ["a", thing, "e"])
                self.assertIsInstance(error, NoFault)
                self.assertEqual(error.name, thing)
        self.assertEqual(len(HOUSE), 3)

    def test_changed(self):
        new = HOUSE.changed("b", (2, 4))
        self.assertEqual(new.shares(), {"a": (1, 3), "b": (1, 2), "c": (1, 3)})
        self.assertEqual((new.links(), HOUSE["b"]), (HOUSE.links(), (1, 4)))
        self.assertEqual(HOUSE.changed("b", 0).changed("b", [1, 4]), HOUSE)
        for thing in ODD_THINGS + ("d",):
            self.assertEqual(seen(caught(HOUSE.changed, thing, 5)), ("NoFault", {"name": thing}))
        for thing in ODD_THINGS + (2, -1, (4, 3)):
            self.assertEqual(seen(caught(HOUSE.changed, "a", thing)), ("BadShare", {"share": thing}))

    def test_tied_and_untied(self):
        for one, other in (("a", "c"), ("c", "a")):
            new = HOUSE.tied(one, other)
            self.assertEqual(new.links(), [("a", "b"), ("a", "c"), ("b", "c")])
            self.assertEqual((new.shares(), new.untied(other, one)), (HOUSE.shares(), HOUSE))
        for one, other in (("a", "b"), ("b", "a")):
            self.assertEqual(HOUSE.tied(one, other), HOUSE)
            self.assertEqual(HOUSE.untied(one, other), System(HOUSE.shares(), [("b", "c")]))
        self.assertEqual(HOUSE.untied("c", "a"), HOUSE)
        self.assertEqual(HOUSE.links(), [("a", "b"), ("b", "c")])

    def test_tied_and_untied_raise(self):
        for work in (HOUSE.tied, HOUSE.untied):
            for thing in ODD_THINGS + ("d",):
                self.assertEqual(seen(caught(work, thing, "e")), ("NoFault", {"name": thing}))
                self.assertEqual(seen(caught(work, "a", thing)), ("NoFault", {"name": thing}))
            self.assertEqual(seen(caught(work, "d", "d")), ("NoFault", {"name": "d"}))
            self.assertEqual(seen(caught(work, "a", "a")), ("SameFault", {"name": "a"}))

    def test_more(self):
        new = HOUSE.more("aa", (2, 4), ["c", "a", "c"])
        self.assertEqual(list(new), ["a", "aa", "b", "c"])
        self.assertEqual((new["aa"], new.near("aa"), new - ["aa"]), ((1, 2), ["a", "c"], HOUSE))
        self.assertEqual(HOUSE.more("d", 0), HOUSE + System({"d": 0}))
        self.assertEqual(System({}).more("a", 1), System({"a": 1}))

    def test_more_raises(self):
        for thing in ODD_THINGS + ("a", "c", "toolongname"):
            self.assertEqual(seen(caught(HOUSE.more, thing, 1, ["e"])), ("BadFault", {"name": thing}))
        for thing in ODD_THINGS + (2, -1):
            self.assertEqual(seen(caught(HOUSE.more, "d", thing, ["e"])), ("BadFault", {"name": "d"}))
        for thing in ODD_THINGS + ("d", "e", ["a"]):
            self.assertEqual(seen(caught(HOUSE.more, "d", 1, ["a", thing, "f"])), ("NoFault", {"name": thing}))

    def test_scaled(self):
        self.assertEqual(HOUSE.scaled(3).shares(), {"a": (1, 1), "b": (3, 4), "c": (1, 1)})
        self.assertEqual(HOUSE.scaled([3, 2]).shares(), {"a": (1, 2), "b": (3, 8), "c": (1, 2)})
        self.assertEqual(HOUSE.scaled(0).shares(), {"a": (0, 1), "b": (0, 1), "c": (0, 1)})
        self.assertEqual((HOUSE.scaled(2).links(), HOUSE.scaled((5, 5))), (HOUSE.links(), HOUSE))
        self.assertEqual(System({"a": 0}).scaled(10 ** 29), System({"a": 0}))
        self.assertEqual(System({}).scaled(7), System({}))

    def test_scaled_raises(self):
        for thing in tuple(thing for thing in ODD_THINGS if not isinstance(thing, int) or thing is True) + (-1, (-1, 2)):
            for system in (HOUSE, System({})):
                error = caught(system.scaled, thing)
                self.assertIsInstance(error, BadNumber)
                self.assertEqual(error.number, thing)
        self.assertEqual(seen(caught(HOUSE.scaled, (10, 3))), ("BadFault", {"name": "a"}))
        self.assertEqual(seen(caught(HOUSE.scaled, 10 ** 6000)), ("BadFault", {"name": "a"}))
        system = System({"z": 1, "a": (1, 9), "c": (1, 2), "b": (2, 3)})
        self.assertEqual(caught(system.scaled, 2).name, "b")
        self.assertEqual(caught(system.scaled, (10 ** 9 + 1, 10 ** 9)).name, "z")


class NewOfTwoTest(unittest.TestCase):

    def test_plus_and_times(self):
        one, other = System({"b": 1, "d": 0}, [("d", "b")]), System({"c": (1, 2), "a": (1, 3)}, [("a", "c")])
        shares = {"a": (1, 3), "b": (1, 1), "c": (1, 2), "d": (0, 1)}
        for new in (one + other, other + one):
            self.assertEqual((new.shares(), new.links()), (shares, [("a", "c"), ("b", "d")]))
        for new in (one * other, other * one):
            self.assertEqual((new.shares(), new.links()), (shares, list(combinations("abcd", 2))))
        self.assertEqual((one * System({"x": 0})).links(), [("b", "d"), ("b", "x"), ("d", "x")])
        self.assertEqual((len(one), len(other)), (2, 2))

    def test_with_an_empty_one(self):
        empty = System({})
        for new in (HOUSE + empty, empty + HOUSE, HOUSE * empty, empty * HOUSE):
            self.assertEqual(new, HOUSE)

    def test_clash(self):
        one, other = System({"a": 0, "c": 1, "d": 1, "e": 0}), System({"e": 1, "d": 0, "c": 0, "b": 0})
        for work in (one.__add__, one.__mul__):
            self.assertEqual(seen(caught(work, other)), ("Clash", {"name": "c"}))
        for work in (other.__add__, other.__mul__):
            self.assertEqual(seen(caught(work, one)), ("Clash", {"name": "c"}))
        self.assertEqual(caught(one.__add__, one).name, "a")


class SplitTest(unittest.TestCase):

    def test_split(self):
        new = HOUSE.split("b", {"x": (1, 8), "d": [1, 16], "a1": (1, 16)})
        self.assertEqual(new.shares(), {"a": (1, 3), "a1": (1, 16), "c": (1, 3), "d": (1, 16), "x": (1, 8)})
        for name in ("a1", "d", "x"):
            self.assertEqual(new.near(name), sorted({"a", "c", "a1", "d", "x"} - {name}))
        self.assertEqual([new.near("a"), new.near("c")], [["a1", "d", "x"], ["a1", "d", "x"]])

    def test_name_itself_may_be_one_of_them(self):
        new = HOUSE.split("a", {"x": (1, 6), "a": (1, 6)})
        self.assertEqual(new.shares(), {"a": (1, 6), "b": (1, 4), "c": (1, 3), "x": (1, 6)})
        self.assertEqual(new.links(), [("a", "b"), ("a", "x"), ("b", "c"), ("b", "x")])
        self.assertEqual(HOUSE.split("a", {"a": (2, 6)}), HOUSE)
        self.assertEqual(HOUSE.split("b", {"y": (1, 4)}).links(), [("a", "y"), ("c", "y")])

    def test_shares_0(self):
        system = System({"a": 0, "b": 1}, [("a", "b")])
        self.assertEqual(system.split("a", {"x": 0, "y": 0}).links(), [("b", "x"), ("b", "y"), ("x", "y")])
        self.assertIsInstance(caught(system.split, "a", {}), BadSum)

    def test_split_raises(self):
        for thing in ODD_THINGS + ("d",):
            self.assertEqual(seen(caught(HOUSE.split, thing, {"A": 1})), ("NoFault", {"name": thing}))
        for key in (None, True, "", "A", ("a",), "b", "c"):
            shares = {"x": (1, 3), key: 0, "B": 0}
            self.assertEqual(seen(caught(HOUSE.split, "a", shares)), ("BadFault", {"name": key}))
        for value in ODD_THINGS + (-1, 2):
            shares = {"x": (1, 3), "y": value, "b": 0}
            self.assertEqual(seen(caught(HOUSE.split, "a", shares)), ("BadFault", {"name": "y"}))
        for shares in ({}, {"x": (1, 4)}, {"x": (1, 3), "y": (1, 100)}, {"a": 1, "x": 1}, {"x": 0}):
            error = caught(HOUSE.split, "a", shares)
            self.assertEqual(seen(error), ("BadSum", {}))
        self.assertEqual(HOUSE.links(), [("a", "b"), ("b", "c")])


class FreeSetsTest(unittest.TestCase):

    def test_examples(self):
        self.assertEqual(sorted(free_sets(HOUSE)), [(), ("a",), ("a", "c"), ("b",), ("c",)])
        self.assertEqual(list(free_sets(System({}))), [()])
        apart = System({name: 1 for name in "hgfedcba"})
        self.assertEqual(sorted(free_sets(apart)), sorted(all_sets("abcdefgh")))
        tied = System({name: 1 for name in "cab"}, list(combinations("abc", 2)))
        self.assertEqual(sorted(free_sets(tied)), [(), ("a",), ("b",), ("c",)])

    def test_all_each_once(self):
        chance = by_chance(10)
        for many in range(8):
            system = random_system(chance, "abcdefgh"[:many])
            wanted = [some for some in all_sets(list(system))
                      if not any(linked(system, one, other) for one, other in combinations(some, 2))]
            self.assertEqual(sorted(free_sets(system)), sorted(wanted))

    def test_they_make_the_free_sums_of_point_20(self):
        def free_sum(system):
            total = Fraction(0)
            for some in free_sets(system):
                term = Fraction(1)
                for name in some:
                    term *= -Fraction(*system[name])
                total += term
            return total
        chance = by_chance(20)
        one, other = random_system(chance, "abc"), random_system(chance, "xyz")
        self.assertEqual(free_sum(HOUSE), Fraction(7, 36))
        self.assertEqual(free_sum(one + other), free_sum(one) * free_sum(other))
        self.assertEqual(free_sum(one * other), free_sum(one) + free_sum(other) - 1)
        self.assertEqual(free_sum(HOUSE.split("b", {"x": (1, 6), "b": (1, 12)})), Fraction(7, 36))


if __name__ == "__main__":
    unittest.main()

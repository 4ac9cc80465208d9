"""Points 11 to 13: worlds, chances in them, new worlds."""

import unittest
from fractions import Fraction

from helper import ODD_THINGS, all_sets, by_chance, caught, random_world, seen, shares_of
from linkedfaults.errors import BadName, BadNumber, BadOutcome, Never, NoFault
from linkedfaults.systems import System
from linkedfaults.worlds import World

RAIN = World(["b", "a"], {("b", "a"): (1, 6), ("b",): (1, 3), (): (1, 2), ("a",): 0})


class WorldTest(unittest.TestCase):

    def test_what_it_tells(self):
        self.assertEqual(RAIN.names(), ["a", "b"])
        self.assertEqual(list(RAIN.outcomes().items()), [((), (1, 2)), (("b",), (1, 3)), (("a", "b"), (1, 6))])
        self.assertEqual((len(RAIN), list(RAIN)), (3, [(), ("b",), ("a", "b")]))
        self.assertEqual([RAIN[()], RAIN[["a"]], RAIN[("b",)], RAIN[("a", "b")], RAIN[["b", "a"]]],
                         [(1, 2), (0, 1), (1, 3), (1, 6), (1, 6)])

    def test_sets_are_in_order(self):
        sets = [("a", "b", "c"), ("c",), ("b", "c"), (), ("c", "a"), ("b",), ("a",), ("b", "a")]
        world = World("cab", {some: (1, 8) for some in sets})
        self.assertEqual(list(world), all_sets("abc"))
        self.assertEqual(list(world.outcomes()), all_sets("abc"))
        longer = World(["a9", "a", "b"], {("b", "a"): (1, 4), ("a9",): (1, 4), ("b",): (1, 4), ("a", "a9"): (1, 4)})
        self.assertEqual(list(longer), [("a9",), ("b",), ("a", "a9"), ("a", "b")])

    def test_empty(self):
        world = World([], {(): 1})
        self.assertEqual((world.names(), world.outcomes(), len(world)), ([], {(): (1, 1)}, 1))
        self.assertEqual((world.none(), world.chance([]), world[()]), ((1, 1), (1, 1), (1, 1)))
        self.assertEqual(seen(caught(World, [], {})), ("BadSum", {}))
        self.assertEqual(World(["a"], {("a",): 1}).outcomes(), {("a",): (1, 1)})

    def test_bad_name(self):
        for thing in ODD_THINGS + ("a", "b", "toolongname", 5):
            error = caught(World, ["a", "b", thing, "A"], {})
            self.assertIsInstance(error, BadName)
            self.assertEqual(error.name, thing)

    def test_bad_outcome_is_the_first_key(self):
        for key in (None, 5, True, "a", "ab", "", ("c",), ("a", "a"), ("a", "b", "a"), ("a", None), (("a",),), ("A",),
                    ("b", "a")):
            outcomes = {("a", "b"): "x", key: "y", ("d",): 1}
            error = caught(World, ["a", "b"], outcomes)
            self.assertIsInstance(error, BadOutcome)
            self.assertEqual(error.outcome, key)

    def test_the_same_set_told_twice(self):
        outcomes = {("a", "b"): (1, 2), ("b", "a"): (1, 2)}
        self.assertEqual(seen(caught(World, ["a", "b"], outcomes)), ("BadOutcome", {"outcome": ("b", "a")}))
        outcomes = {("b", "a"): 0, (): 1, ("a", "b"): 0}
        self.assertEqual(seen(caught(World, ["a", "b"], outcomes)), ("BadOutcome", {"outcome": ("a", "b")}))

    def test_bad_number_is_the_first_value(self):
        for thing in ODD_THINGS[:-1] + (-1, (-1, 2), [-1, 2], (1, 0)):
            error = caught(World, ["a"], {(): 5, ("a",): thing})
            self.assertIsInstance(error, BadNumber)
            self.assertEqual(error.number, thing)

    def test_bad_sum(self):
        for values in ((0, 0), (1, 1), ((1, 2), (1, 3)), ((1, 2), (2, 3)), (2, 0), (10 ** 6000, 0)):
            error = caught(World, ["a"], {(): values[0], ("a",): values[1]})
            self.assertEqual(seen(error), ("BadSum", {}))
        bottom = 10 ** 29
        self.assertEqual(len(World(["a"], {(): (1, bottom), ("a",): (bottom - 1, bottom)})), 2)

    def test_items_of_any_object(self):
        for thing in tuple(thing for thing in ODD_THINGS if thing not in ([], (), ("a",))) + (
                "b", "ab", ["c"], ["a", "a"], ("a", "b", "c"), [["a"]], [["a"], "b"], 0, [0]):
            error = caught(RAIN.__getitem__, thing)
            self.assertIsInstance(error, BadOutcome)
            self.assertEqual(error.outcome, thing)

    def test_equal(self):
        same = World(("a", "b"), {(): [3, 6], ("b",): (2, 6), ("a", "b"): (1, 6)})
        self.assertIs(RAIN == same, True)
        self.assertIs(RAIN != same, False)
        unlike = (World(["a", "b"], {(): (1, 2), ("b",): (1, 6), ("a", "b"): (1, 3)}), World.quiet(["a", "b"]),
                  World(["a", "b", "c"], RAIN.outcomes()), RAIN & ["a"])
        for thing in unlike + ODD_THINGS + (RAIN.outcomes(), RAIN.names(), System({"a": 1, "b": 1})):
            self.assertIs(RAIN == thing, False)
            self.assertIs(RAIN != thing, True)
            self.assertIs(thing == RAIN, False)


class ChanceTest(unittest.TestCase):

    def test_examples(self):
        self.assertEqual([RAIN.chance(["a"]), RAIN.chance(["b"]), RAIN.chance(["b", "a"])], [(1, 6), (1, 2), (1, 6)])
        self.assertEqual([RAIN.chance(["b"], ["a"]), RAIN.chance(["a"], ["b"])], [(1, 3), (0, 1)])
        self.assertEqual([RAIN.chance(["a"], ["a"]), RAIN.chance([]), RAIN.chance([], [])], [(0, 1), (1, 1), (1, 1)])
        self.assertEqual(RAIN.chance(["b", "b"], ["a", "a"]), (1, 3))
        self.assertEqual([RAIN.none(), RAIN.none(None), RAIN.none(["a"]), RAIN.none(("b", "b")), RAIN.none([])],
                         [(1, 2), (1, 2), (5, 6), (1, 2), (1, 1)])

    def test_no_fault_of_any_object(self):
        for thing in ODD_THINGS + ("c", ["a"], 0):
            for told in ((["a", thing, "d"], ["e"]), (["a"], ["b", thing, "d"]), ([thing],)):
                error = caught(RAIN.chance, *told)
                self.assertIsInstance(error, NoFault)
                self.assertEqual(error.name, thing)
            for work in (RAIN.none, RAIN.given, RAIN.__and__):
                error = caught(work, ["a", thing, "d"])
                self.assertIsInstance(error, NoFault)
                self.assertEqual(error.name, thing)

    def test_against_a_sum_of_python_s_fractions(self):
        chance = by_chance(12)
        for _ in range(20):
            world = random_world(chance, "abcd")
            for happen in all_sets("abcd"):
                stay = chance.choice(all_sets("abcd"))
                wanted = sum([share for some, share in shares_of(world).items()
                              if some >= set(happen) and not some & set(stay)], Fraction(0))
                got = world.chance(list(happen), stay)
                self.assertEqual(got, (wanted.numerator, wanted.denominator))
                self.assertEqual(world.none(happen), world.chance([], happen))


class NewWorldsTest(unittest.TestCase):

    def test_of_some_names_alone(self):
        self.assertEqual(RAIN & ["b"], World(["b"], {(): (1, 2), ("b",): (1, 2)}))
        self.assertEqual(RAIN & ["a", "a"], World(["a"], {(): (5, 6), ("a",): (1, 6)}))
        self.assertEqual((RAIN & ["b", "a"], RAIN & []), (RAIN, World([], {(): 1})))

    def test_of_two(self):
        coin = World(["c"], {("c",): (1, 4), (): (3, 4)})
        for world in (RAIN * coin, coin * RAIN):
            self.assertEqual(world.names(), ["a", "b", "c"])
            self.assertEqual(world.outcomes(), {(): (3, 8), ("b",): (1, 4), ("c",): (1, 8), ("a", "b"): (1, 8),
                                                ("b", "c"): (1, 12), ("a", "b", "c"): (1, 24)})
            self.assertEqual((world & ["a", "b"], world & ["c"]), (RAIN, coin))
        empty = World([], {(): 1})
        self.assertEqual((RAIN * empty, empty * RAIN), (RAIN, RAIN))

    def test_clash(self):
        one, other = World.quiet(["a", "d", "c", "e"]), World.quiet(["e", "c", "b", "d"])
        self.assertEqual(seen(caught(one.__mul__, other)), ("Clash", {"name": "c"}))
        self.assertEqual(seen(caught(other.__mul__, one)), ("Clash", {"name": "c"}))

    def test_given(self):
        self.assertEqual(RAIN.given(["a"]), World(["b"], {(): (3, 5), ("b",): (2, 5)}))
        self.assertEqual(RAIN.given(("b", "b")), World(["a"], {(): 1}))
        self.assertEqual((RAIN.given([]), RAIN.given(["b", "a"])), (RAIN, World([], {(): 1})))

    def test_never(self):
        always = World(["a", "b"], {("a",): (1, 2), ("b",): (1, 2)})
        self.assertEqual(seen(caught(always.given, ["b", "a"])), ("Never", {}))
        self.assertIsInstance(caught(World(["a"], {("a",): 1}).given, ["a"]), Never)
        self.assertEqual(always.given(["a"]), World(["b"], {("b",): 1}))

    def test_quiet(self):
        self.assertEqual(World.quiet(["b", "a"]), World(["a", "b"], {(): 1}))
        self.assertEqual(World.quiet(()).names(), [])
        for thing in ODD_THINGS + ("a",):
            error = caught(World.quiet, ["a", thing, "A"])
            self.assertIsInstance(error, BadName)
            self.assertEqual(error.name, thing)

    def test_chances_in_new_worlds(self):
        chance = by_chance(13)
        for _ in range(20):
            world, other = random_world(chance, "abc"), random_world(chance, "xy")
            some = chance.choice(all_sets("abc"))
            for happen in all_sets(some):
                self.assertEqual((world & some).chance(happen), world.chance(happen))
            both, far = world * other, chance.choice(all_sets("xy"))
            product = Fraction(*world.chance(some)) * Fraction(*other.chance(far))
            self.assertEqual(Fraction(*both.chance(far + some)), product)
            if world.none(some)[0] > 0:
                rest = [name for name in "abc" if name not in some]
                given = world.given(some)
                self.assertEqual(given.names(), rest)
                for happen in all_sets(rest):
                    wanted = Fraction(*world.chance(happen, some)) / Fraction(*world.none(some))
                    self.assertEqual(Fraction(*given.chance(happen)), wanted)
            else:
                self.assertIsInstance(caught(world.given, some), Never)


if __name__ == "__main__":
    unittest.main()

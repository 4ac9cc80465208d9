"""Point 3: kinds of values, copies, calls by place and by name; point 4: which error comes first."""

import unittest

from helper import ODD_THINGS, caught, seen
from linkedfaults.errors import BadFault, BadLink, BadName, BadNumber, BadOutcome, BadShare, BadSum, NoFault
from linkedfaults.systems import System, free_sets
from linkedfaults.worlds import World


class KindsTest(unittest.TestCase):

    def test_names(self):
        for name in ("a", "z", "a0", "z9", "abcdefgh", "a1234567"):
            self.assertEqual(list(System({name: 1})), [name])
            self.assertEqual(World([name], {(): 1}).names(), [name])
        for name in ("", "abcdefghi", "A", "aB", "0", "0a", "a-b", "a b", "a\n", "_a", "a_", "\u00e9", "a\u00e9",
                     "a\u0660", "\uff41", 5, None, True, (), ("a",)):
            self.assertEqual(seen(caught(System, {name: 1})), ("BadFault", {"name": name}))
            self.assertEqual(seen(caught(World, [name], {(): 1})), ("BadName", {"name": name}))

    def test_fractions_that_are_told(self):
        told = {(1, 2): (1, 2), (2, 4): (1, 2), (0, 7): (0, 1), (7, 7): (1, 1), 0: (0, 1), 1: (1, 1),
                (10 ** 29, 10 ** 29 + 1): (10 ** 29, 10 ** 29 + 1)}
        for thing, share in told.items():
            for way in (thing, list(thing) if isinstance(thing, tuple) else thing):
                got = System({"a": way})["a"]
                self.assertEqual(got, share)
                self.assertIsInstance(got, tuple)
                self.assertNotIsInstance(got[0], bool)

    def test_what_is_no_share(self):
        system = System({"a": (1, 2)})
        for thing in (*ODD_THINGS, (3, 2), [3, 2], 2, -1, (-1, 2), (-1, -2), (0, 0), (0, -1), (1,), "1/2", (True, 1),
                      (1, True), True, False, (1, (2, 1)), ((1, 1), 1)):
            error = caught(system.changed, "a", thing)
            self.assertIsInstance(error, BadShare)
            self.assertEqual((error.share, error.share.__class__), (thing, thing.__class__))
            self.assertEqual(seen(caught(System, {"a": thing})), ("BadFault", {"name": "a"}))

    def test_lists_and_tuples_pass_for_one_another(self):
        one = System({"a": (1, 2), "b": (1, 3)}, [("a", "b")])
        other = System({"a": [1, 2], "b": [1, 3]}, (["b", "a"],))
        self.assertEqual(one, other)
        self.assertEqual(one & ("a",), one & ["a"])
        self.assertEqual(one.more("c", [1, 2], ("a",)), one.more("c", (1, 2), ["a"]))
        self.assertEqual(one.split("a", {"x": [1, 4], "y": [1, 4]}), one.split("a", {"x": (1, 4), "y": (1, 4)}))
        world = World(("a", "b"), {("b", "a"): [1, 2], (): (1, 2)})
        self.assertEqual(world, World(["b", "a"], {("a", "b"): (1, 2), (): (2, 4)}))
        self.assertEqual(world[["b", "a"]], (1, 2))
        self.assertEqual(world.chance(("a",), ("b",)), world.chance(["a"], ["b"]))
        self.assertEqual(world & ("a",), world & ["a"])

    def test_kinds_of_what_is_returned(self):
        system = System({"b": [1, 2], "a": 1}, [["b", "a"]])
        self.assertEqual(repr(system.shares()), "{'a': (1, 1), 'b': (1, 2)}")
        self.assertEqual(repr(system.links()), "[('a', 'b')]")
        self.assertEqual(repr(system.near("a")), "['b']")
        world = World(("b", "a"), {("b", "a"): [2, 4], (): [1, 2]})
        self.assertEqual(repr(world.names()), "['a', 'b']")
        self.assertEqual(repr(world.outcomes()), "{(): (1, 2), ('a', 'b'): (1, 2)}")
        self.assertEqual(repr(world.chance([])), "(1, 1)")
        self.assertEqual(repr([world == world, world != world, system == system, "a" in system]),
                         "[True, False, True, True]")

    def test_arguments_are_copied_and_not_changed(self):
        shares, links = {"b": [2, 4], "a": [1, 3]}, [["b", "a"], ["a", "b"]]
        system = System(shares, links)
        self.assertEqual(repr((shares, links)), "({'b': [2, 4], 'a': [1, 3]}, [['b', 'a'], ['a', 'b']])")
        shares["b"][0] = 3
        shares["c"] = 1
        links[0][1] = "c"
        links.clear()
        self.assertEqual((system.shares(), system.links()), ({"a": (1, 3), "b": (1, 2)}, [("a", "b")]))
        names, outcomes = ["b", "a"], {("b", "a"): [1, 2], (): [1, 2]}
        world = World(names, outcomes)
        self.assertEqual(repr((names, outcomes)), "(['b', 'a'], {('b', 'a'): [1, 2], (): [1, 2]})")
        names.append("c")
        outcomes[()][0] = 2
        outcomes.clear()
        self.assertEqual(world.names(), ["a", "b"])
        self.assertEqual(world.outcomes(), {(): (1, 2), ("a", "b"): (1, 2)})
        near, parts = ["a"], {"x": [1, 4], "y": [1, 4]}
        more, split = system.more("c", 1, near), system.split("b", parts)
        near.append("b")
        parts["x"][0] = 0
        self.assertEqual((more.near("c"), split["x"]), (["a"], (1, 4)))

    def test_what_is_returned_is_new(self):
        system = System({"a": (1, 2), "b": 0}, [("a", "b")])
        system.shares()["a"] = 0
        system.shares().clear()
        system.links().clear()
        system.near("a").append("a")
        self.assertEqual(system, System({"a": (1, 2), "b": 0}, [("a", "b")]))
        self.assertEqual((system.links(), system.near("a")), ([("a", "b")], ["b"]))
        world = World(["a"], {("a",): 1})
        world.names().append("b")
        world.outcomes().clear()
        self.assertEqual((world.names(), world.outcomes()), (["a"], {("a",): (1, 1)}))

    def test_calls_by_name(self):
        system = System(shares={"a": (1, 2), "b": (1, 2)}, links=[("a", "b")])
        self.assertEqual(system.near(name="a"), ["b"])
        self.assertEqual(system.changed(share=0, name="a"), system.changed("a", 0))
        self.assertEqual(system.untied(other="a", one="b").tied(one="a", other="b"), system)
        self.assertEqual(system.more(name="c", near=["a"], share=1), system.more("c", 1, ["a"]))
        self.assertEqual(system.scaled(number=(1, 2)), system.scaled((1, 2)))
        self.assertEqual(system.split(shares={"c": (1, 2)}, name="a"), system.split("a", {"c": (1, 2)}))
        self.assertEqual(sorted(free_sets(system=system)), [(), ("a",), ("b",)])
        world = World(outcomes={(): 1}, names=["a"])
        self.assertEqual(world.chance(stay=["a"], happen=[]), (1, 1))
        self.assertEqual(world.none(names=["a"]), (1, 1))
        self.assertEqual(World.quiet(names=["a"]), world.given(stay=[]))

    def test_the_same_for_equal_arguments(self):
        one = System({"a": (1, 2), "b": 0, "c": 0}, [("a", "b")])
        other = System({"c": [0, 3], "b": (0, 5), "a": [2, 4]}, (("b", "a"), ["a", "b"]))
        self.assertEqual(list(free_sets(one)), list(free_sets(other)))

    def test_numbers_of_any_size_that_were_returned_may_be_passed_on(self):
        share = (10 ** 29, 10 ** 29 + 1)
        system = System({"a": share})
        for _ in range(8):
            system = system.scaled(system["a"])
        self.assertEqual(system["a"], (share[0] ** 256, share[1] ** 256))
        self.assertEqual(System({"b": system["a"]})["b"], system["a"])


class FirstErrorTest(unittest.TestCase):

    def test_faults_before_links(self):
        self.assertIsInstance(caught(System, {"A": 1}, 5), BadFault)
        self.assertIsInstance(caught(System, {"a": 2}, [5]), BadFault)
        self.assertEqual(caught(System, {"a": 1, "b": 2, "C": 1}, []).name, "b")
        self.assertEqual(caught(System, {"a": 1, "C": 1, "b": 2}, []).name, "C")
        self.assertEqual(caught(System, {"a": 1, "b": 1}, [("a", "b"), ("a",), 5]).index, 1)
        self.assertIsInstance(caught(System, {"a": 1}, None), BadLink)

    def test_deeds_of_systems(self):
        system = System({"a": (1, 2), "b": (1, 2)})
        self.assertEqual(seen(caught(system.changed, "c", 2)), ("NoFault", {"name": "c"}))
        self.assertEqual(seen(caught(system.tied, "c", "c")), ("NoFault", {"name": "c"}))
        self.assertEqual(seen(caught(system.tied, "d", "c")), ("NoFault", {"name": "d"}))
        self.assertEqual(seen(caught(system.untied, "a", "c")), ("NoFault", {"name": "c"}))
        self.assertEqual(seen(caught(system.more, "c", 2, ["d"])), ("BadFault", {"name": "c"}))
        self.assertEqual(seen(caught(system.more, "c", 1, ["e", "d"])), ("NoFault", {"name": "e"}))
        self.assertEqual(seen(caught(system.split, "c", {"a": 1})), ("NoFault", {"name": "c"}))
        self.assertEqual(seen(caught(system.split, "a", {"b": 1})), ("BadFault", {"name": "b"}))
        self.assertEqual(system, System({"a": (1, 2), "b": (1, 2)}))

    def test_worlds_tell_names_then_sets_then_numbers_then_the_sum(self):
        self.assertIsInstance(caught(World, ["a", "a"], {("c",): -1}), BadName)
        error = caught(World, ["a"], {("a",): -1, ("c",): 1})
        self.assertIsInstance(error, BadOutcome)
        self.assertEqual(error.outcome, ("c",))
        self.assertEqual(seen(caught(World, ["a"], {("a",): 5, (): -1})), ("BadNumber", {"number": -1}))
        self.assertEqual(caught(World, ["a"], {("a",): [-1, 3], (): "x"}).number, [-1, 3])
        self.assertIsInstance(caught(World, ["a"], {("a",): 5, (): 1}), BadSum)
        self.assertNotIsInstance(caught(World, ["a"], {("a",): 5, (): 1}), BadNumber)

    def test_happen_before_stay(self):
        world = World(["a"], {(): 1})
        self.assertEqual(caught(world.chance, ["a", "c"], ["b"]).name, "c")
        self.assertEqual(caught(world.chance, ["a"], ["a", "b", "c"]).name, "b")
        always = World(["a"], {("a",): 1})
        self.assertIsInstance(caught(always.given, ["a", "b"]), NoFault)
        self.assertEqual(world, World.quiet(["a"]))


if __name__ == "__main__":
    unittest.main()

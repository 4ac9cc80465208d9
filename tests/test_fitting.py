"""Points 14 and 15: whether a world fits, fits by groups, fits loosely."""

import unittest
from fractions import Fraction

from helper import all_sets, by_chance, caught, linked, random_share, random_system, random_world, seen, together
from linkedfaults.errors import UnlikeFaults
from linkedfaults.fitting import fits, fits_groups, fits_loosely, unfit
from linkedfaults.systems import System
from linkedfaults.worlds import World

HOUSE = System({"a": (1, 3), "b": (1, 4), "c": (1, 3)}, [("a", "b"), ("b", "c")])
WORST = World("abc", {(): (7, 36), ("a",): (2, 9), ("b",): (1, 4), ("c",): (2, 9), ("a", "c"): (1, 9)})
HALF = (1, 2)
# Worlds in which an even number of faults happens, any such set as often as any other one.
EVEN3 = World("abc", {some: (1, 4) for some in all_sets("abc") if len(some) in (0, 2)})
EVEN4 = World("abcd", {some: (1, 8) for some in all_sets("abcd") if len(some) in (0, 2, 4)})


def all_four(system, world):
    return (unfit(system, world), fits(system, world), fits_groups(system, world), fits_loosely(system, world))


def one_fault(name, share):
    return World([name], {(name,): share, (): (share[1] - share[0], share[1])})


def holds_by_the_words(system, world):
    """(unfit, fits_groups, fits_loosely), reckoned straight by the words of the document."""
    names = list(system)
    great = [name for name in names if together(world, [name]) > Fraction(*system[name])]
    wrong, loosely = None, True
    for name in names:
        others = [other for other in names if other != name and not linked(system, name, other)]
        for some in all_sets(others):
            product = together(world, [name]) * together(world, some)
            if wrong is None and together(world, [name, *some]) != product:
                wrong = ("hang", name, some)
            if world.none(some)[0] > 0:
                share = Fraction(*world.chance([name], some)) / Fraction(*world.none(some))
                loosely = loosely and share <= Fraction(*system[name])
    groups = not great
    for one in all_sets(names):
        for other in all_sets(names):
            apart = not any(x == y or linked(system, x, y) for x in one for y in other)
            if apart and together(world, one + other) != together(world, one) * together(world, other):
                groups = False
    return (("share", great[0]) if great else wrong, groups, loosely)


class FittingTest(unittest.TestCase):

    def test_fits(self):
        self.assertEqual(all_four(HOUSE, WORST), (None, True, True, True))
        self.assertEqual(all_four(HOUSE, World.quiet("abc")), (None, True, True, True))
        self.assertEqual(all_four(System({}), World([], {(): 1})), (None, True, True, True))
        self.assertEqual(all_four(System({"a": 1}), World(["a"], {("a",): 1})), (None, True, True, True))
        alone = one_fault("a", (1, 3)) * one_fault("b", (1, 4)) * one_fault("c", (1, 3))
        self.assertEqual(all_four(HOUSE, alone), (None, True, True, True))

    def test_linked_ones_may_hang_together_in_any_way(self):
        system = System({"a": HALF, "b": HALF}, [("a", "b")])
        for outcomes in ({(): 1}, {(): HALF, ("a", "b"): HALF}, {("a",): HALF, ("b",): HALF}, {(): HALF, ("b",): HALF}):
            self.assertEqual(all_four(system, World("ab", outcomes)), (None, True, True, True))

    def test_too_great_a_share(self):
        world = World("abc", {("b", "c"): (2, 5), (): (3, 5)})
        self.assertEqual(all_four(HOUSE, world), (("share", "b"), False, False, False))
        self.assertEqual(unfit(HOUSE.changed("b", (2, 5)), world), ("share", "c"))
        self.assertEqual(unfit(System({"a": 0}), one_fault("a", (1, 10 ** 29))), ("share", "a"))
        self.assertEqual(all_four(System({"a": (1, 3)}), one_fault("a", (1, 3))), (None, True, True, True))

    def test_too_great_a_share_comes_before_what_hangs_together(self):
        world = World("abc", {("a", "b"): HALF, (): HALF})
        system = System({"a": HALF, "b": (1, 3), "c": 0})
        self.assertEqual(unfit(system, world), ("share", "b"))
        self.assertEqual(unfit(system.changed("b", HALF), world), ("hang", "a", ("b",)))

    def test_hanging_together(self):
        both = World("ab", {("a", "b"): HALF, (): HALF})
        system = System({"a": 1, "b": 1})
        self.assertEqual(all_four(system, both), (("hang", "a", ("b",)), False, False, True))
        tight = System({"a": HALF, "b": HALF})
        self.assertEqual(all_four(tight, both), (("hang", "a", ("b",)), False, False, True))
        never = World("ab", {("a",): HALF, ("b",): HALF})
        self.assertEqual(all_four(tight, never), (("hang", "a", ("b",)), False, False, False))

    def test_the_first_set_in_order(self):
        system = System({name: HALF for name in "abc"})
        self.assertEqual(unfit(system, EVEN3), ("hang", "a", ("b", "c")))
        self.assertIsNone(unfit(system.tied("a", "b").tied("a", "c").tied("b", "c"), EVEN3))
        self.assertIsNone(unfit(system.tied("a", "b").tied("b", "c"), EVEN3))
        self.assertEqual(unfit(system.tied("b", "c"), EVEN3), ("hang", "a", ("b", "c")))
        mixed = World("abcd", {("a", "d"): HALF, (): HALF})
        system = System({name: HALF for name in "abcd"})
        self.assertEqual(unfit(system, mixed), ("hang", "a", ("d",)))
        self.assertEqual(unfit(system.tied("a", "d"), mixed), None)
        # The pair of b and c is no more right than d, but d is fewer.
        copied = World("abcd", {(*some, "d") if "a" in some else some: share for some, share in EVEN3.outcomes().items()})
        self.assertEqual(unfit(system, copied), ("hang", "a", ("d",)))
        self.assertEqual(unfit(system.tied("a", "d"), copied), ("hang", "a", ("b", "c")))
        later = World("abcd", {("c", "d"): HALF, (): HALF})
        self.assertEqual(unfit(system, later), ("hang", "c", ("d",)))

    def test_fits_but_not_by_groups(self):
        system = System({name: HALF for name in "abcd"}, [("a", "b"), ("c", "d")])
        self.assertEqual(all_four(system, EVEN4), (None, True, False, True))
        self.assertEqual(all_four(system.tied("b", "c"), EVEN4), (None, True, True, True))
        self.assertEqual(all_four(system.untied("c", "d"), EVEN4), (("hang", "c", ("a", "b", "d")), False, False, True))

    def test_fits_loosely_only(self):
        world = World("ab", {("a",): (1, 4), ("b",): (1, 4), (): HALF})
        hang = ("hang", "a", ("b",))
        self.assertEqual(all_four(System({"a": HALF, "b": HALF}), world), (hang, False, False, True))
        self.assertEqual(all_four(System({"a": (1, 3), "b": (1, 3)}), world), (hang, False, False, True))
        self.assertEqual(all_four(System({"a": (1, 3), "b": (33, 100)}), world), (hang, False, False, False))
        self.assertEqual(all_four(System({"a": (33, 100), "b": (1, 3)}), world), (hang, False, False, False))

    def test_loosely_where_it_never_comes_about(self):
        world = World("ab", {("a",): (1, 4), ("a", "b"): (3, 4)})
        self.assertEqual(all_four(System({"a": 1, "b": (3, 4)}), world), (None, True, True, True))
        self.assertEqual(fits_loosely(System({"a": 1, "b": HALF}), world), False)

    def test_unlike_faults(self):
        for world in (World.quiet("ab"), World.quiet("abcd"), World.quiet("abd"), World.quiet([])):
            for work in (unfit, fits, fits_groups, fits_loosely):
                self.assertEqual(seen(caught(work, HOUSE, world)), ("UnlikeFaults", {}))
                self.assertIsInstance(caught(work, world=world, system=HOUSE), UnlikeFaults)

    def test_kinds_and_calls_by_name(self):
        told = {"system": System({"a": 1, "b": 1}), "world": World("ab", {("a", "b"): HALF, (): HALF})}
        self.assertEqual(repr(unfit(**told)), "('hang', 'a', ('b',))")
        self.assertEqual(repr([fits(**told), fits_groups(**told), fits_loosely(**told)]), "[False, False, True]")

    def test_by_the_words(self):
        chance, told = by_chance(14), []
        for _ in range(300):
            names = "abcd"[:chance.randint(0, 4)]
            system = random_system(chance, names)
            world = random_world(chance, names)
            if chance.random() < 0.6:
                # Worlds by chance hardly ever fit: these are put together of groups that are independent.
                world = World([], {(): 1})
                for group in (names[:2], names[2:]):
                    world = world * random_world(chance, group)
                for name in names:
                    if chance.random() < 0.8:
                        system = system.changed(name, world.chance([name]))
            if len(names) == 4 and chance.random() < 0.2:
                links = [("a", "b"), ("c", "d"), *system.links()]
                system, world = System({name: HALF for name in names}, links), EVEN4
            wanted, groups, loosely = holds_by_the_words(system, world)
            self.assertEqual(all_four(system, world), (wanted, wanted is None, groups, loosely))
            told.append((wanted is None, groups, loosely))
        # Who fits by groups fits, and who fits fits loosely; all else comes about.
        self.assertEqual(sorted(set(told)), [(False, False, False), (False, False, True), (True, False, True),
                                             (True, True, True)])

    def test_five_faults_told_at_length(self):
        chance = by_chance(15)
        shares = {name: random_share(chance, 10 ** 29) for name in "abcde"}
        world = World([], {(): 1})
        for name in "abcde":
            world = world * one_fault(name, shares[name])
        self.assertEqual(all_four(System(shares), world), (None, True, True, True))


if __name__ == "__main__":
    unittest.main()

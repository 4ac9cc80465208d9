"""Points 26 to 29: what is too much for a chance, and what has to go."""

import unittest
from fractions import Fraction
from itertools import combinations

from helper import (ODD_THINGS, all_sets, by_chance, caught, least_by_words, long_system, pair, random_system,
                    safe_by_words, seen, some_systems)
from linkedfaults.errors import BadShare
from linkedfaults.mending import least_cuts, mends, too_much, worst_links
from linkedfaults.systems import System

HOUSE = System({"a": (1, 3), "b": (1, 4), "c": (1, 3)}, [("a", "b"), ("b", "c")])
FULL = HOUSE.changed("b", (1, 2))
HALF = (1, 2)
EDGE = System({"a": HALF, "b": HALF}, [("a", "b")])
ALL = (too_much, mends, least_cuts, worst_links)


def told(system, chance=None):
    return [work(system, chance) for work in ALL]


def do(system, names, chance):
    """Whether faults do for a chance, straight by the words."""
    return safe_by_words(system, names) if chance is None else least_by_words(system, names) >= Fraction(*chance)


def subsets(things):
    """All sets of things, in order."""
    return [some for many in range(len(things) + 1) for some in combinations(sorted(things), many)]


def least_ones(sets):
    """Those of which no other one is a part."""
    return [some for some in sets if not any(set(other) < set(some) for other in sets)]


def by_words(system, chance):
    """What the four functions tell, straight by the words."""
    names, links = list(system), system.links()

    def with_links(some):
        return do(System(system.shares(), list(some)), names, chance)
    return [least_ones([some for some in subsets(names) if not do(system, some, chance)]),
            least_ones([some for some in subsets(names) if do(system, set(names) - set(some), chance)]),
            least_ones([some for some in subsets(links) if with_links(set(links) - set(some))]),
            least_ones([some for some in subsets(links) if not with_links(some)])]


def meeting(things, sets):
    """The least sets of things that have one in common with each of the sets."""
    return least_ones([some for some in subsets(things) if all(set(some) & set(other) for other in sets)])


class MendingTest(unittest.TestCase):

    def test_examples(self):
        self.assertEqual(told(HOUSE), [[], [()], [()], []])
        self.assertEqual(told(FULL), [[("a", "b", "c")], [("a",), ("b",), ("c",)],
                                      [(("a", "b"),), (("b", "c"),)], [(("a", "b"), ("b", "c"))]])
        self.assertEqual(told(HOUSE, (1, 4)), [[("a", "b", "c")], [("a",), ("b",), ("c",)],
                                               [(("a", "b"),), (("b", "c"),)], [(("a", "b"), ("b", "c"))]])
        self.assertEqual(told(HOUSE, (7, 36)), [[], [()], [()], []])
        # For a half a and c are too much by themselves, as they are with b, so no links help.
        self.assertEqual(told(HOUSE, HALF), [[("a", "b"), ("a", "c"), ("b", "c")], [("a", "b"), ("a", "c"), ("b", "c")],
                                             [], [()]])
        self.assertEqual(told(HOUSE, (2, 3)), [[("a", "b"), ("a", "c"), ("b", "c")],
                                               [("a", "b"), ("a", "c"), ("b", "c")], [], [()]])
        self.assertEqual(told(HOUSE, (3, 4)), [[("a",), ("c",)], [("a", "c")], [], [()]])
        self.assertEqual(told(HOUSE, 1), [[("a",), ("b",), ("c",)], [("a", "b", "c")], [], [()]])

    def test_edges(self):
        for chance in (None, (1, 10 ** 29), 1):
            self.assertEqual(told(System({}), chance), [[], [()], [()], []])
            self.assertEqual(told(System({"a": 0, "b": 0}, [("a", "b")]), chance), [[], [()], [()], []])
        for chance in (None, (1, 10 ** 29)):
            # Just 0 is not safe, and nothing above 0.
            self.assertEqual(told(EDGE, chance), [[("a", "b")], [("a",), ("b",)], [(("a", "b"),)], [(("a", "b"),)]])
            self.assertEqual(told(System({"a": 1}), chance), [[("a",)], [("a",)], [], [()]])
        self.assertEqual(told(EDGE.untied("a", "b")), [[], [()], [()], []])
        self.assertEqual(told(EDGE.untied("a", "b"), (1, 4)), [[], [()], [()], []])
        self.assertEqual(told(EDGE.untied("a", "b"), (1, 3)), [[("a", "b")], [("a",), ("b",)], [], [()]])

    def test_a_part_that_is_too_much_hides_those_around_it(self):
        # The free sum of all is above 0, though two parts are unsafe.
        twice = System({name: 1 for name in "abcd"}, [("a", "b"), ("c", "d")])
        self.assertEqual(too_much(twice), [("a",), ("b",), ("c",), ("d",)])
        system = System({name: (2, 3) for name in "abcd"}, [("a", "b"), ("c", "d")])
        self.assertEqual(told(system), [[("a", "b"), ("c", "d")], [("a", "c"), ("a", "d"), ("b", "c"), ("b", "d")],
                                        [(("a", "b"), ("c", "d"))], [(("a", "b"),), (("c", "d"),)]])

    def test_in_order(self):
        system = System({"a9": HALF, "a": HALF, "b": 1, "a1": HALF}, [("a", "a9"), ("a1", "a9"), ("a", "a1")])
        self.assertEqual(too_much(system), [("b",), ("a", "a1"), ("a", "a9"), ("a1", "a9")])
        self.assertEqual(mends(system), [("a", "a1", "b"), ("a", "a9", "b"), ("a1", "a9", "b")])
        self.assertEqual(worst_links(system - ["b"]), [(("a", "a1"),), (("a", "a9"),), (("a1", "a9"),)])
        self.assertEqual(least_cuts(system - ["b"]), [(("a", "a1"), ("a", "a9"), ("a1", "a9"))])
        thirds = System({name: (1, 3) for name in "dbca"}, list(combinations("abcd", 2)))
        self.assertEqual(worst_links(thirds), list(combinations(combinations("abcd", 2), 3)))
        self.assertEqual(least_cuts(thirds), list(combinations(combinations("abcd", 2), 4)))

    def test_faults_by_the_words(self):
        chance, kinds = by_chance(46), []
        for system in some_systems(47, 40, 6):
            for wanted in (None, (chance.randint(1, 12), 12), pair(least_by_words(system, list(system)))):
                if wanted == (0, 1):
                    continue
                names = list(system)
                much, mend = too_much(system, wanted), mends(system, wanted)
                kinds.append(min(2, len(much)))
                self.assertEqual(much, least_ones([some for some in all_sets(names) if not do(system, some, wanted)]))
                self.assertEqual(mend, least_ones([some for some in all_sets(names)
                                                   if do(system, sorted(set(names) - set(some)), wanted)]))
                self.assertEqual((meeting(names, much), meeting(names, mend)), (mend, much))
        self.assertTrue(min(kinds.count(kind) for kind in range(3)) > 5)

    def test_links_by_the_words(self):
        chance, kinds = by_chance(48), []
        for _ in range(60):
            system = random_system(chance, "abcd"[:chance.randint(2, 4)]).scaled(chance.choice((1, HALF, (2, 3))))
            for one, other in combinations(system, 2):
                system = system.tied(one, other) if chance.random() < 0.5 else system
            for wanted in (None, (chance.randint(1, 12), 24)):
                much, mend, cuts, worst = told(system, wanted)
                self.assertEqual([much, mend, cuts, worst], by_words(system, wanted))
                kinds.append("none" if not cuts else "all" if not worst else "some")
                links = system.links()
                self.assertEqual(meeting(links, worst), cuts)
                if cuts:
                    self.assertEqual(meeting(links, cuts), worst)
        self.assertTrue(min(kinds.count(kind) for kind in ("none", "all", "some")) > 10)

    def test_told_at_length(self):
        chance = by_chance(49)
        system = long_system(chance, "abcdefgh", 4)
        for wanted in (None, (10 ** 29, 3 * 10 ** 29 + 1)):
            much = too_much(system, wanted)
            self.assertEqual(much, least_ones([some for some in all_sets("abcdefgh") if not do(system, some, wanted)]))
            self.assertEqual(mends(system, wanted), meeting("abcdefgh", much))
        small = system & ["a", "b", "c", "d"]
        self.assertEqual(told(small, (10 ** 29, 3 * 10 ** 29 + 1)), by_words(small, (10 ** 29, 3 * 10 ** 29 + 1)))
        bottom = 10 ** 29
        thin = System({"a": HALF, "b": (bottom // 2 - 1, bottom)}, [("a", "b")])
        self.assertEqual([too_much(thin), too_much(thin, (1, bottom)), too_much(thin, (1, bottom - 1))],
                         [[], [], [("a", "b")]])


class ConventionsTest(unittest.TestCase):

    def test_bad_share_of_any_object(self):
        for work in ALL:
            for thing in ODD_THINGS[1:] + (0, (0, 1), [0, 7], -1, 2, (-1, 2), (3, 2), "1/2"):
                for system in (HOUSE, FULL, System({}), System({"a": 1})):
                    error = caught(work, system, thing)
                    self.assertIsInstance(error, BadShare)
                    self.assertEqual((error.share, error.share.__class__), (thing, thing.__class__))
            self.assertEqual(seen(caught(work, chance=0, system=HOUSE)), ("BadShare", {"share": 0}))

    def test_calls_by_name_and_lists_for_tuples(self):
        for work in ALL:
            self.assertEqual(work(chance=[2, 4], system=HOUSE), work(HOUSE, HALF))
            self.assertEqual(work(system=FULL), work(FULL, None))

    def test_kinds_and_new_lists(self):
        self.assertEqual(repr(told(EDGE)), "[[('a', 'b')], [('a',), ('b',)], [(('a', 'b'),)], [(('a', 'b'),)]]")
        for work in ALL:
            before = list(work(FULL))
            work(FULL).clear()
            self.assertEqual(work(FULL), before)

    def test_told_in_another_order(self):
        other = System({"c": [1, 3], "b": HALF, "a": [2, 6]}, [["c", "b"], ["b", "a"], ("a", "b")])
        self.assertEqual(told(other), told(FULL))


if __name__ == "__main__":
    unittest.main()

"""Points 24 and 25: papers and sheets, weights that prove that faults are safe."""

import unittest
from fractions import Fraction
from itertools import combinations
from math import prod

from helper import (ODD_THINGS, all_sets, by_chance, caught, linked, long_system, pair, random_system,
                    safe_by_words, seen)
from linkedfaults.papers import is_paper, is_sheet, paper_bound, sheet_bound
from linkedfaults.sums import is_safe, least_chance
from linkedfaults.systems import System

HOUSE = System({"a": (1, 3), "b": (1, 4), "c": (1, 3)}, [("a", "b"), ("b", "c")])
LINE = System({"a": (1, 4), "b": (1, 8), "c": (1, 4)}, [("a", "b"), ("b", "c")])
HALVES = {"a": (1, 2), "b": (1, 2), "c": (1, 2)}
ONES = {"a": 1, "b": 1, "c": 1}
HALF = (1, 2)


def both(system, weights):
    return [is_paper(system, weights), is_sheet(system, weights)]


def paper_by_words(system, weights):
    """(Whether the weights are a paper, its bound), straight by the words."""
    weights = {name: Fraction(*weight) for name, weight in weights.items()}
    right = all(0 <= weight < 1 for weight in weights.values())
    for name in system:
        bound = weights[name] * prod([1 - weights[other] for other in system.near(name)], start=Fraction(1))
        right = right and Fraction(*system[name]) <= bound
    return right, prod([1 - weight for weight in weights.values()], start=Fraction(1))


def sheet_by_words(system, weights):
    """(Whether the weights are a sheet, its bound), straight by the words."""
    weights = {name: Fraction(*weight) for name, weight in weights.items()}

    def total(names):
        free = [some for some in all_sets(names)
                if not any(linked(system, one, other) for one, other in combinations(some, 2))]
        return sum([prod([weights[name] for name in some], start=Fraction(1)) for some in free], Fraction(0))
    right = all(Fraction(*system[name]) * total([name, *system.near(name)]) <= weights[name] for name in system)
    return right, 1 / total(list(system))


def fitted_weights(chance, system):
    """Weights by chance, often such that they are a paper: shares are often near the greatest that they allow."""
    weights = {name: chance.choice((Fraction(0), Fraction(1, 2), Fraction(chance.randint(0, 9), 10)))
               for name in system}
    for name in system:
        bound = weights[name] * prod([1 - weights[other] for other in system.near(name)], start=Fraction(1))
        system = system.changed(name, pair(chance.choice((bound, bound, bound / 2, bound * Fraction(99, 100)))))
    if chance.random() < 0.4 and len(system):
        name = chance.choice(list(system))
        system = system.changed(name, pair(min(Fraction(1), Fraction(*system[name]) + Fraction(1, 10 ** 9))))
    return system, {name: pair(weight) for name, weight in weights.items()}


class PaperTest(unittest.TestCase):

    def test_examples(self):
        self.assertEqual([is_paper(LINE, HALVES), paper_bound(LINE, HALVES)], [True, (1, 8)])
        self.assertEqual(is_paper(HOUSE, HALVES), False)
        weights = {"a": (1, 2), "b": (3, 5), "c": (1, 2)}
        self.assertEqual([is_paper(LINE.changed("a", (1, 5)).changed("c", (1, 5)), weights),
                          paper_bound(LINE.changed("a", (1, 5)).changed("c", (1, 5)), weights), is_paper(LINE, weights)],
                         [True, (1, 10), False])

    def test_edges(self):
        empty = System({})
        self.assertEqual([is_paper(empty, {}), paper_bound(empty, {})], [True, (1, 1)])
        never = System({"a": 0, "b": 0}, [("a", "b")])
        self.assertEqual([is_paper(never, {"a": 0, "b": (0, 3)}), paper_bound(never, {"a": 0, "b": 0})], [True, (1, 1)])
        # Just as much as the weights allow, and a little more.
        one = System({"a": (1, 3)})
        self.assertEqual([is_paper(one, {"a": (1, 3)}), paper_bound(one, {"a": [2, 6]})], [True, (2, 3)])
        self.assertEqual(is_paper(one, {"a": (10 ** 29, 3 * 10 ** 29 + 1)}), False)
        # A weight has to be below 1, even where nothing else speaks against it.
        self.assertEqual([is_paper(System({"a": 0}), {"a": 1}), is_paper(System({"a": 0}), {"a": (5, 5)}),
                          is_paper(System({"a": 1}), {"a": 1}), is_paper(System({"a": 0}), {"a": (98, 99)})],
                         [False, False, False, True])
        self.assertEqual(is_paper(LINE, {"a": (3, 2), "b": (3, 2), "c": (3, 2)}), False)

    def test_of_any_object(self):
        others = ([HALVES], list(HALVES), list(HALVES.items()), tuple(HALVES.items()), {}, {"a": HALF, "b": HALF},
                  {**HALVES, "d": 0}, {**HALVES, "d": HALF}, {"a": HALF, "b": HALF, "d": HALF}, {**HALVES, None: 0},
                  {"a": HALF, "b": HALF, ("c",): HALF}, {"a": HALF, "b": HALF, "C": HALF}, {1: 0, 2: 0, 3: 0}, LINE)
        things = [*ODD_THINGS, *others, *({**HALVES, "b": thing} for thing in ODD_THINGS[:-1]),
                  *({**HALVES, "c": thing} for thing in (-1, (-1, 2), (1, 0), (1, -2), "1/2", [HALF], (True, 2)))]
        for thing in things:
            self.assertEqual(both(LINE, thing), [False, False], thing)
            for work in (paper_bound, sheet_bound):
                self.assertEqual(seen(caught(work, LINE, thing)), ("NoPaper", {}))
                self.assertEqual(seen(caught(work, weights=thing, system=LINE)), ("NoPaper", {}))
        for thing in ({}, {"b": 0}, {"a": 0, "b": 0}, {"A": 0}, ["a"]):
            self.assertEqual(both(System({"a": 0}), thing), [False, False])
        for thing in ODD_THINGS:
            self.assertEqual(both(System({}), thing), [thing == {}] * 2)

    def test_by_the_words(self):
        chance, told = by_chance(43), []
        for _ in range(150):
            names = "abcdefgh"[:chance.randint(1, 6)]
            system, weights = fitted_weights(chance, random_system(chance, names))
            right, bound = paper_by_words(system, weights)
            told.append(right)
            self.assertIs(is_paper(system, weights), right)
            if not right:
                self.assertEqual(seen(caught(paper_bound, system, weights)), ("NoPaper", {}))
                continue
            self.assertEqual(paper_bound(system, weights), pair(bound))
            self.assertTrue(safe_by_words(system, list(system)))
            self.assertTrue(Fraction(*least_chance(system)) >= bound)
            sheet = {name: pair(Fraction(*weight) / (1 - Fraction(*weight))) for name, weight in weights.items()}
            self.assertIs(is_sheet(system, sheet), True)
            self.assertTrue(Fraction(*sheet_bound(system, sheet)) >= bound)
        self.assertTrue(min(told.count(True), told.count(False)) > 30)


class SheetTest(unittest.TestCase):

    def test_examples(self):
        self.assertEqual([is_sheet(LINE, ONES), sheet_bound(LINE, ONES)], [True, (1, 5)])
        self.assertEqual([is_sheet(HOUSE, ONES), is_sheet(HOUSE, HALVES)], [False, False])
        self.assertEqual([is_sheet(LINE, HALVES), sheet_bound(LINE, HALVES)], [True, (4, 11)])
        # The neighbours of b are not linked, so the sum around it is 1 + 1 + 1 + 1 + 1, with b and with a and c.
        self.assertEqual([is_sheet(LINE.changed("b", (1, 5)), ONES), is_sheet(LINE.changed("b", (2, 9)), ONES)],
                         [True, False])
        self.assertEqual([is_sheet(LINE.changed("b", (1, 5)).tied("a", "c"), ONES),
                          is_sheet(LINE.changed("b", (1, 4)).tied("a", "c"), ONES),
                          sheet_bound(LINE.changed("b", (1, 4)).tied("a", "c"), ONES)], [True, True, (1, 4)])

    def test_edges(self):
        empty = System({})
        self.assertEqual([is_sheet(empty, {}), sheet_bound(empty, {})], [True, (1, 1)])
        never = System({"a": 0, "b": 0}, [("a", "b")])
        self.assertEqual([is_sheet(never, {"a": 0, "b": 0}), sheet_bound(never, {"a": 0, "b": 0}),
                          sheet_bound(never, {"a": 7, "b": [5, 2]})], [True, (1, 1), (2, 21)])
        one = System({"a": (1, 3)})
        self.assertEqual([is_sheet(one, {"a": HALF}), sheet_bound(one, {"a": (2, 4)})], [True, (2, 3)])
        self.assertEqual([is_sheet(one, {"a": (10 ** 29, 2 * 10 ** 29 + 1)}), is_sheet(one, {"a": 10 ** 29})],
                         [False, True])
        self.assertEqual([is_sheet(System({"a": 1}), {"a": 10 ** 29}), is_sheet(System({"a": 0}), {"a": 1})],
                         [False, True])
        self.assertEqual(sheet_bound(System({"a": 0}), {"a": 10 ** 29}), (1, 10 ** 29 + 1))

    def test_by_the_words(self):
        chance, told = by_chance(44), []
        for _ in range(150):
            names = "abcdefgh"[:chance.randint(1, 6)]
            system, weights = fitted_weights(chance, random_system(chance, names))
            sheet = {name: pair(Fraction(*weight) / (1 - Fraction(*weight))) for name, weight in weights.items()}
            if chance.random() < 0.5:
                name = chance.choice(names)
                # The greatest share that the weights allow, or a little more.
                around = system & [name, *system.near(name)]
                share = Fraction(*sheet[name]) * sheet_by_words(around, {one: sheet[one] for one in around})[1]
                system = system.changed(name, pair(share * chance.choice((1, Fraction(101, 100)))))
            right, bound = sheet_by_words(system, sheet)
            told.append(right)
            self.assertIs(is_sheet(system, sheet), right)
            if not right:
                self.assertEqual(seen(caught(sheet_bound, system, sheet)), ("NoPaper", {}))
                continue
            self.assertEqual(sheet_bound(system, sheet), pair(bound))
            self.assertTrue(safe_by_words(system, list(system)))
            self.assertTrue(Fraction(*least_chance(system)) >= bound)
        self.assertTrue(min(told.count(True), told.count(False)) > 30)


class ConventionsTest(unittest.TestCase):

    def test_eight_faults_told_at_length(self):
        chance = by_chance(45)
        system = long_system(chance, "abcdefgh", 60)
        weights = {name: (10 ** 29 // chance.randint(13, 100), 10 ** 29 + 1) for name in "abcdefgh"}
        for work, bound, by_words in ((is_paper, paper_bound, paper_by_words), (is_sheet, sheet_bound, sheet_by_words)):
            right, wanted = by_words(system, weights)
            self.assertIs(work(system, weights), right)
            low = system.scaled((1, 100))
            self.assertIs(work(low, weights), True)
            self.assertEqual(bound(low, weights), pair(wanted))
        self.assertTrue(is_safe(system.scaled((1, 100))))

    def test_calls_by_name_lists_for_tuples_and_any_order(self):
        weights = {"c": [1, 2], "a": [2, 4], "b": (1, 2)}
        self.assertEqual([is_paper(weights=weights, system=LINE), paper_bound(weights=weights, system=LINE)],
                         [True, (1, 8)])
        weights = {"c": [2, 2], "a": 1, "b": (1, 1)}
        self.assertEqual([is_sheet(weights=weights, system=LINE), sheet_bound(weights=weights, system=LINE)],
                         [True, (1, 5)])
        self.assertEqual(weights, {"c": [2, 2], "a": 1, "b": (1, 1)})

    def test_kinds(self):
        self.assertEqual(repr([*both(LINE, ONES), paper_bound(LINE, HALVES)]), "[False, True, (1, 8)]")
        self.assertEqual(repr([both(LINE, HALVES), sheet_bound(LINE, HALVES)]), "[[True, True], (4, 11)]")


if __name__ == "__main__":
    unittest.main()

"""Points 30 to 33: rows without end, their chances, and fractions that stay."""

import unittest
from fractions import Fraction
from math import prod

from helper import (ODD_THINGS, by_chance, caught, least_by_words, linked, long_share, pair, random_share, seen)
from linkedfaults.rows import Row
from linkedfaults.sums import is_safe, least_chance
from linkedfaults.systems import System

QUARTERS = Row([(1, 4)])
THIRDS = Row([(1, 3)])
MIXED = Row([(1, 9), (4, 9)])


def share_at(shares, place):
    return Fraction(*shares[place % len(shares)])


def chances_by_words(shares, start, most):
    """The least chances for 0 to so many neighbours: free sums by the rule of point 16, up to the first unsafe ones."""
    sums = [Fraction(1), 1 - share_at(shares, start)]
    for count in range(2, most + 1):
        sums.append(sums[-1] - share_at(shares, start + count - 1) * sums[-2])
    for count, total in enumerate(sums):
        if total <= 0:
            return sums[:count] + [Fraction(0)] * (most + 1 - count)
    return sums[:most + 1]


def end_by_words(shares, x):
    """What going through a row once takes x to; None if it is not above 0 behind some fault."""
    for share in shares:
        x = 1 - Fraction(*share) / x
        if x <= 0:
            return None
    return x


def is_stay_by_words(shares, x):
    end = end_by_words(shares, x)
    return 0 < x <= 1 and end is not None and end >= x


def going_round(xs):
    """The shares with which going takes the first x to the second one, and so on, and the last one to the first one."""
    return [pair(x * (1 - after)) for x, after in zip(xs, [*xs[1:], xs[0]])]


def some_rows(seed, many, most=6):
    """Lists of shares, of rows that are safe and of others, also with shares 0 and 1."""
    chance = by_chance(seed)
    for _ in range(many):
        length = chance.randint(1, most)
        kind = chance.randint(0, 4)
        if kind == 0:
            yield [random_share(chance) for _ in range(length)]
        elif kind == 1:
            yield [chance.choice(((1, 4), (1, 5), (2, 7), (0, 1), (1, 3))) for _ in range(length)]
        elif kind == 2:
            yield [long_share(chance, chance.randint(2, 4)) for _ in range(length)]
        else:
            xs = [Fraction(chance.randint(1, 9), chance.randint(9, 12)) for _ in range(length)]
            shares = going_round(xs)
            if kind == 4:
                place = chance.randrange(length)
                shares[place] = pair(min(Fraction(1), Fraction(*shares[place]) * Fraction(11, 10)))
            yield shares


class RowTest(unittest.TestCase):

    def test_told_once_twice_and_thrice_over(self):
        for told in ([(1, 4)], [(1, 4), (1, 3)], [(1, 4), (1, 4), (0, 1)], [(1, 2), (1, 3), (1, 2), (1, 4)],
                     [(1, 2), (1, 2), (1, 3), (1, 2), (1, 2)]):
            row = Row(told)
            self.assertEqual(row.shares(), told)
            for times in (1, 2, 3):
                self.assertEqual(Row(told * times).shares(), told)
                self.assertTrue(row == Row(told * times))
                self.assertFalse(row != Row(told * times))
                self.assertEqual([Row(told * times)[k] for k in range(20)], [told[k % len(told)] for k in range(20)])

    def test_no_shorter_where_it_only_begins_alike(self):
        for told in ([(1, 2), (1, 3), (1, 2)], [(1, 2), (1, 2), (1, 2), (1, 3)],
                     [(0, 1), (1, 1), (0, 1), (1, 1), (0, 1)],
                     [(1, 2), (1, 3), (1, 2), (1, 3), (1, 2), (1, 4)]):
            self.assertEqual(Row(told).shares(), told)

    def test_equal(self):
        self.assertTrue(Row([[2, 8]]) == QUARTERS)
        self.assertTrue(Row([0]) == Row(((0, 5), [0, 7])))
        for other in (THIRDS, Row([(1, 4), (1, 3)]), [(1, 4)], (1, 4), None, System({}), "row", 0):
            self.assertFalse(QUARTERS == other)
            self.assertTrue(QUARTERS != other)
        self.assertNotEqual(Row([(1, 4), (1, 3)]), Row([(1, 3), (1, 4)]))

    def test_items(self):
        row = Row([(1, 4), 1, [2, 6], 0])
        self.assertEqual([row[k] for k in range(6)], [(1, 4), (1, 1), (1, 3), (0, 1), (1, 4), (1, 1)])
        self.assertEqual([row[10 ** 29], row[10 ** 29 + 1], row[4 * 10 ** 28 + 3]], [(1, 4), (1, 1), (0, 1)])

    def test_wrong_lists(self):
        for thing in (*ODD_THINGS, {(1, 4): 1}, QUARTERS, "1/4", 1, 0, [], (), {}):
            if not isinstance(thing, (list, tuple)) or not thing:
                self.assertEqual(seen(caught(Row, thing)), ("BadCount", {"count": 0}))
        for thing in (*ODD_THINGS, 2, -1, (3, 2), [5, 4], (-1, 3), "1/4", QUARTERS):
            for told in ([thing], [(1, 4), thing, None], (0, 1, thing, (4, 3))):
                error = caught(Row, told)
                self.assertEqual(seen(error), ("BadShare", {"share": thing}))
                self.assertEqual(error.share.__class__, thing.__class__)

    def test_wrong_places(self):
        for thing in (*[thing for thing in ODD_THINGS if thing != 10 ** 6000 + 7], -1, -10 ** 29, "0", (0,), [1]):
            for work in (QUARTERS.__getitem__, QUARTERS.unsafe_at, lambda k: QUARTERS.system(k, None),
                         lambda k: QUARTERS.chance(k, -1)):
                error = caught(work, thing)
                self.assertEqual(seen(error), ("BadPlace", {"place": thing}))
                self.assertEqual(error.place.__class__, thing.__class__)

    def test_copies(self):
        told = [[1, 4], [1, 3]]
        row = Row(told)
        told[0][0] = 3
        told.append(0)
        row.shares().clear()
        row.shares().append((0, 1))
        self.assertEqual(row.shares(), [(1, 4), (1, 3)])
        self.assertEqual(row, Row([(1, 4), (1, 3)]))

    def test_it_is_not_gone_through(self):
        with self.assertRaises(TypeError):
            list(QUARTERS)


class NeighboursTest(unittest.TestCase):

    def test_system(self):
        row = Row([(1, 4), (1, 3), 0])
        self.assertEqual(row.system(1, 4), System({"f0": (1, 3), "f1": 0, "f2": (1, 4), "f3": (1, 3)},
                                                  [("f0", "f1"), ("f1", "f2"), ("f2", "f3")]))
        self.assertEqual([row.system(7, 0), row.system(2, 1)], [System({}), System({"f0": 0})])
        self.assertEqual(row.system(3 * 10 ** 28, 2), System({"f0": (1, 4), "f1": (1, 3)}, [("f0", "f1")]))
        eight = QUARTERS.system(5, 8)
        self.assertEqual(list(eight), [f"f{k}" for k in range(8)])
        self.assertEqual(eight.links(), [(f"f{k}", f"f{k + 1}") for k in range(7)])

    def test_chance_against_the_system(self):
        for shares in some_rows(51, 40):
            row = Row(shares)
            for start in (0, 1, 5, 10 ** 20 + 3):
                for count in (0, 1, 2, 3, 7, 8):
                    system = row.system(start, count)
                    self.assertEqual([system[f"f{k}"] for k in range(count)], [row[start + k] for k in range(count)])
                    self.assertTrue(all(linked(system, f"f{k}", f"f{k + 1}") for k in range(count - 1)))
                    self.assertEqual(len(system.links()), max(0, count - 1))
                    self.assertEqual(row.chance(start, count), least_chance(system))
                    if count < 6:
                        self.assertEqual(row.chance(start, count), pair(least_by_words(system, list(system))))

    def test_chance_for_many(self):
        for shares in [[(1, 4)], [(1, 3)], *some_rows(52, 25)]:
            for start in (0, 2):
                wanted = chances_by_words(shares, start, 120)
                self.assertEqual([Row(shares).chance(start, count) for count in range(121)], list(map(pair, wanted)))
        self.assertEqual(QUARTERS.chance(3, 120), (122 // 2, 2 ** 120))

    def test_wrong_counts(self):
        for thing in (*[thing for thing in ODD_THINGS if thing != 10 ** 6000 + 7], -1, -10 ** 29, "1", [2], (3,)):
            for work in (QUARTERS.system, QUARTERS.chance):
                error = caught(work, 0, thing)
                self.assertEqual(seen(error), ("BadCount", {"count": thing}))
                self.assertEqual(error.count.__class__, thing.__class__)
        for count in (9, 10, 10 ** 29):
            self.assertEqual(seen(caught(QUARTERS.system, 0, count)), ("BadCount", {"count": count}))
            self.assertEqual(seen(caught(QUARTERS.system, "x", count)), ("BadPlace", {"place": "x"}))
        self.assertEqual(QUARTERS.chance(0, 9), (11, 1024))


class UnsafeTest(unittest.TestCase):

    def test_examples(self):
        self.assertEqual([QUARTERS.unsafe_at(), THIRDS.unsafe_at(), MIXED.unsafe_at(), MIXED.unsafe_at(1)],
                         [None, 4, None, None])
        self.assertEqual([Row([1]).unsafe_at(), Row([1, 0]).unsafe_at(), Row([0, 1]).unsafe_at(),
                          Row([0, 0, 1]).unsafe_at(4)], [1, 1, 2, 2])
        self.assertEqual([Row([0]).unsafe_at(), Row([0, (9, 10)]).unsafe_at(7), Row([(1, 2)]).unsafe_at(),
                          Row([(1, 2), (1, 2), 0]).unsafe_at(), Row([(1, 2), (1, 2), 0]).unsafe_at(2)],
                         [None, None, 2, 2, 3])
        self.assertEqual(THIRDS.unsafe_at(10 ** 29), 4)

    def test_against_chances(self):
        told = []
        for shares in some_rows(53, 150):
            row = Row(shares)
            at = [row.unsafe_at(start) for start in range(8)]
            told.append(at[0] is None)
            self.assertEqual([count is None for count in at], [at[0] is None] * 8)
            self.assertIs(row.stay() is None, at[0] is not None)
            for start in (0, 1, 3, 7):
                wanted = chances_by_words(shares, start, 200)
                if at[start] is None:
                    self.assertTrue(wanted[-1] > 0)
                elif at[start] <= 200:
                    self.assertEqual(at[start], wanted.index(0))
                    self.assertEqual(row.chance(start, at[start]), (0, 1))
                    self.assertTrue(row.chance(start, at[start] - 1)[0] > 0)
                    self.assertEqual(row.chance(start, at[start] + 1), (0, 1))
                if at[start] is not None and at[start] <= 8:
                    self.assertIs(is_safe(row.system(start, at[start])), False)
        self.assertTrue(min(told.count(True), told.count(False)) > 30)

    def test_up_to_two_hundred(self):
        # A share a little above 1/4 lasts long.
        for bottom in (100, 1000, 2000):
            row = Row([(bottom // 4 + 1, bottom)])
            wanted = chances_by_words(row.shares(), 0, 200).index(0)
            self.assertTrue(wanted > 10)
            self.assertEqual([row.unsafe_at(), row.unsafe_at(3)], [wanted, wanted])


class StayTest(unittest.TestCase):

    def test_examples(self):
        self.assertEqual([QUARTERS.stay(), THIRDS.stay(), MIXED.stay(), Row([(4, 9), (1, 9)]).stay()],
                         [(1, 2), None, (1, 3), (2, 3)])
        self.assertEqual([Row([1]).stay(), Row([0, 1]).stay(), Row([1, 0]).stay(), Row([(1, 2)]).stay()], [None] * 4)
        self.assertEqual([Row([(3, 16)]).is_stay(x) for x in ((1, 4), (3, 4), (1, 2), (1, 5), (4, 5), 1)],
                         [True, True, True, False, False, False])
        self.assertEqual([Row([0]).is_stay(x) for x in (1, (1, 1), (1, 10 ** 29), 0, (0, 3))],
                         [True, True, True, False, False])

    def test_going_to_just_nothing_is_no_stay(self):
        self.assertEqual([Row([(1, 2), 0]).is_stay((1, 2)), Row([(1, 2), 0]).is_stay((2, 3)), Row([1]).is_stay(1)],
                         [False, True, False])
        self.assertEqual([Row([(1, 2), 0]).is_stay(1), Row([0, (1, 2)]).is_stay((1, 2)), Row([0, (1, 2)]).is_stay(1)],
                         [True, True, False])

    def test_of_any_object(self):
        for row in (QUARTERS, Row([0]), Row([(3, 16), (1, 8)]), THIRDS):
            for thing in (*ODD_THINGS, True, False, "1/2", -1, (-1, 2), [-1, 2], (0, 1), [0, 1], 0, 2, (3, 2),
                          [101, 100],
                          (1, 2, 1), ((1, 2),), [(1, 2)], (1, 0), {"x": (1, 2)}, row, row.shares(), (True, 2),
                          ("1", 2)):
                if thing != (1, 2):
                    self.assertIs(row.is_stay(thing), False, thing)
        for thing in ((1, 2), [1, 2], (2, 4), [5 * 10 ** 28, 10 ** 29]):
            self.assertIs(QUARTERS.is_stay(thing), True)
            self.assertIs(THIRDS.is_stay(thing), False)

    def test_by_the_words(self):
        told = []
        for shares in some_rows(54, 150):
            row, chance = Row(shares), by_chance(str(shares))
            stay = row.stay()
            told.append(stay is None)
            if stay is not None:
                self.assertEqual(stay, pair(Fraction(*stay)))
                self.assertTrue(is_stay_by_words(row.shares(), Fraction(*stay)))
                self.assertIs(row.is_stay(stay), True)
                self.assertIs(row.is_stay(list(stay)), True)
                self.assertEqual(Row(shares * 2).stay(), stay)
            xs = [Fraction(chance.randint(1, 24), 24) for _ in range(12)]
            for x in [*xs, Fraction(*(stay or (1, 1))) + Fraction(1, 10 ** 29), Fraction(*(stay or (1, 1))) / 2]:
                right = is_stay_by_words(row.shares(), x)
                self.assertIs(row.is_stay(pair(x)), right)
                # There is a stay at all if this is one.
                self.assertFalse(right and stay is None)
        self.assertTrue(min(told.count(True), told.count(False)) > 30)

    def test_fractions_that_stay_just_as_they_are(self):
        chance = by_chance(55)
        for _ in range(80):
            xs = [Fraction(chance.randint(1, 10), chance.randint(10, 13)) for _ in range(chance.randint(1, 6))]
            row = Row(going_round(xs))
            x = xs[0]
            self.assertEqual(end_by_words(row.shares(), x), x)
            self.assertIs(row.is_stay(pair(x)), True)
            self.assertIsNotNone(row.stay())
            self.assertIsNone(row.unsafe_at(chance.randint(0, 20)))

    def test_at_the_very_edge(self):
        little = Fraction(1, 10 ** 28)
        for told in ("1/2", "1/3 2/3", "2/3 1/3", "1/4 3/4", "1/3 1/2 2/3", "2/5 1/2 3/5", "1/5 1/4 3/4 4/5",
                     "1/7 1/2 1/2 6/7",
                     "1/8 1/3 1/2 1/2 2/3 7/8"):
            xs = [Fraction(x) for x in told.split()]
            # Among all that go round, these do so alone.
            self.assertEqual(prod(xs), prod([1 - x for x in xs]))
            shares = going_round(xs)
            row = Row(shares)
            self.assertEqual(row.stay(), pair(xs[0]))
            self.assertIs(row.is_stay(row.stay()), True)
            for other in (xs[0] - little, xs[0] + little, Fraction(1), xs[0] / 2, (1 + xs[0]) / 2):
                self.assertIs(row.is_stay(pair(other)), False)
            for place in range(len(shares)):
                more, less = list(shares), list(shares)
                more[place] = pair(Fraction(*shares[place]) + little)
                less[place] = pair(Fraction(*shares[place]) - little)
                self.assertIsNone(Row(more).stay())
                self.assertIsNotNone(Row(less).stay())
                self.assertIsNone(Row(less).unsafe_at())


class ConventionsTest(unittest.TestCase):

    def test_calls_by_name(self):
        row = Row(shares=((1, 3), [1, 4]))
        self.assertEqual(row.system(count=2, start=1), System({"f0": (1, 4), "f1": (1, 3)}, [("f0", "f1")]))
        self.assertEqual([row.chance(count=2, start=1), row.unsafe_at(start=1)], [(5, 12), row.unsafe_at(1)])
        self.assertIs(row.is_stay(thing=[1, 2]), False)

    def test_kinds_and_the_same_anew(self):
        row = Row(([1, 4], [1, 4]))
        for _ in range(2):
            told = [row.shares(), row[7], row.chance(0, 2), row.unsafe_at(), row.stay(), row.is_stay([1, 2]),
                    row == row]
            self.assertEqual(repr(told), "[[(1, 4)], (1, 4), (1, 2), None, (1, 2), True, True]")

    def test_thirty_figures(self):
        bottom = 10 ** 30 - 1
        row = Row([(bottom // 4 - k, bottom - k) for k in range(6)])
        wanted = chances_by_words(row.shares(), 4, 120)
        self.assertEqual([row.chance(4, count) for count in (1, 60, 120)], [pair(wanted[k]) for k in (1, 60, 120)])
        self.assertEqual(len(row.shares()), 6)
        self.assertTrue(is_stay_by_words(row.shares(), Fraction(*row.stay())))
        self.assertIs(row.is_stay(row.stay()), True)


if __name__ == "__main__":
    unittest.main()

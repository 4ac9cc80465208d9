"""Point 34: fans, trees of faults."""

import unittest
from fractions import Fraction

from helper import ODD_THINGS, by_chance, caught, pair, safe_by_words, seen, sum_by_words
from linkedfaults.rows import Row, fan_chance, fan_limit
from linkedfaults.sums import least_chance
from linkedfaults.systems import System


def lines_of(many, depth):
    """The links of a fan, as pairs of numbers; the top is 0."""
    links, line, count = [], [0], 1
    for _ in range(depth):
        below = []
        for top in line:
            below += range(count, count + many)
            links += [(top, k) for k in range(count, count + many)]
            count += many
        line = below
    return links, count


def fan(share, many, depth):
    """A fan of at most eight faults as a system."""
    links, count = lines_of(many, depth)
    names = [f"n{k}" for k in range(count)]
    return System({name: share for name in names}, [(names[one], names[two]) for one, two in links])


def chance_by_tree(share, many, depth):
    """The least chance, fault by fault from the last one on: with and without each one; 0 if a smaller fan has none."""
    share = Fraction(*share)
    links, count = lines_of(many, depth)
    below = {k: [two for one, two in links if one == k] for k in range(count)}
    without, total = {}, {}
    for k in reversed(range(count)):
        without[k], alone = Fraction(1), share
        for other in below[k]:
            without[k] *= total[other]
            alone *= without[other]
        total[k] = without[k] - alone
    return total[0] if min(total.values()) > 0 else Fraction(0)


class FanLimitTest(unittest.TestCase):

    def test_all(self):
        self.assertEqual([fan_limit(1), fan_limit(2), fan_limit(3)], [(1, 4), (4, 27), (27, 256)])
        for many in range(1, 10):
            limit = fan_limit(many)
            self.assertEqual(limit, (many ** many, (many + 1) ** (many + 1)))
            self.assertEqual(fan_limit(many=many), limit)
            for depth in range(4 if many < 4 else 2):
                self.assertTrue(fan_chance(limit, many, depth)[0] > 0)

    def test_it_is_the_greatest(self):
        # Chances fall level by level, and with a little more than the limit they come down to nothing.
        for many in range(1, 10):
            for size, ends in ((Fraction(1), False), (Fraction(11, 10), True)):
                share, x = Fraction(*fan_limit(many)) * size, Fraction(1)
                for _ in range(60):
                    # So much of the greater number, that it has few figures.
                    x = Fraction(int((1 - share / x ** many) * 10 ** 9) + 1, 10 ** 9)
                    if x <= Fraction(1, 10 ** 8):
                        break
                self.assertIs(x <= Fraction(1, 10 ** 8), ends)

    def test_wrong_counts(self):
        for thing in (*ODD_THINGS, 0, -1, 10, 10 ** 29, "2", (2,), [3]):
            error = caught(fan_limit, thing)
            self.assertEqual(seen(error), ("BadCount", {"count": thing}))
            self.assertEqual(error.count.__class__, thing.__class__)


class FanChanceTest(unittest.TestCase):

    def test_against_systems(self):
        shares = [(0, 1), (1, 1), (1, 10), (1, 7), (4, 27), (1, 5), (1, 4), (27, 99), (1, 3), (2, 5), (1, 2), (3, 4)]
        sizes = [(many, 0) for many in range(1, 10)] + [(many, 1) for many in range(1, 8)]
        for many, depth in [*sizes, (1, 2), (1, 3), (2, 2)]:
            for share in shares:
                system = fan(share, many, depth)
                self.assertEqual(fan_chance(share, many, depth), least_chance(system))
                if len(system) < 6:
                    wanted = sum_by_words(system, list(system)) if safe_by_words(system, list(system)) else Fraction(0)
                    self.assertEqual(fan_chance(share, many, depth), pair(wanted))

    def test_against_trees(self):
        told = []
        for many, depth in ((1, 3), (2, 3), (3, 2), (3, 3), (4, 2), (5, 2), (9, 1), (9, 0), (8, 1)):
            for top in range(0, 60, 3):
                wanted = chance_by_tree((top, 99), many, depth)
                told.append(wanted > 0)
                self.assertEqual(fan_chance((top, 99), many, depth), pair(wanted))
        self.assertTrue(min(told.count(True), told.count(False)) > 30)

    def test_one_below_each_one_is_a_row(self):
        chance = by_chance(61)
        for _ in range(40):
            share = (chance.randint(0, 60), 99)
            for depth in range(4):
                self.assertEqual(fan_chance(share, 1, depth), Row([share]).chance(0, depth + 1))

    def test_a_smaller_fan_that_is_not_safe(self):
        # The free sum of faults that are not safe may be above 0 again.
        for share, many, depth in (((1, 2), 2, 2), ((1, 2), 2, 3), ((1, 1), 1, 2), ((1, 1), 1, 3), ((2, 3), 3, 2),
                                   (1, 9, 1)):
            self.assertEqual(fan_chance(share, many, depth), (0, 1))
        self.assertTrue(sum_by_words(fan((1, 1), 2, 2), list(fan((1, 1), 2, 2))) > 0)
        self.assertEqual(fan_chance(1, 2, 2), (0, 1))

    def test_errors_in_their_order(self):
        for thing in (*ODD_THINGS, 2, (3, 2), (-1, 2), -1, "1/2", [5, 4]):
            error = caught(fan_chance, thing, 0, 9)
            self.assertEqual(seen(error), ("BadShare", {"share": thing}))
            self.assertEqual(error.share.__class__, thing.__class__)
        for thing in (*ODD_THINGS, 0, -1, 10, 10 ** 29, "1", (1,)):
            self.assertEqual(seen(caught(fan_chance, (1, 9), thing, None)), ("BadCount", {"count": thing}))
        for thing in (*ODD_THINGS, -1, 4, 10 ** 29, "1", (1,)):
            error = caught(fan_chance, (1, 9), 1, thing)
            self.assertEqual(seen(error), ("BadCount", {"count": thing}))
            self.assertEqual(error.count.__class__, thing.__class__)

    def test_calls_by_name_and_lists(self):
        self.assertEqual([fan_chance(depth=1, share=[2, 18], many=2), fan_chance(0, 3, 3), fan_chance(1, 3, 0)],
                         [(55, 81), (1, 1), (0, 1)])
        self.assertEqual(repr(fan_chance([1, 4], 1, 0)), "(3, 4)")


if __name__ == "__main__":
    unittest.main()

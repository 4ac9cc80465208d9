"""What several tests have in common."""

import random
from fractions import Fraction
from itertools import combinations, product
from math import prod

from linkedfaults.systems import System
from linkedfaults.worlds import World

# Objects of all kinds that are neither names nor fractions nor sets nor pairs of faults.
ODD_THINGS = (None, True, False, "", "A", "1a", "a b", [], (), {}, {"a": 1}, [[]], [None], (1, 0), (1, -2), (1, 2, 3),
              ("a",), (True, 2), (1, True), (1, None), ("1", "2"), System({}), World([], {(): 1}), 10 ** 6000 + 7)


def caught(work, *told, **named):
    """The error that a call raises; None if it raises none."""
    try:
        work(*told, **named)
    except ValueError as error:
        return error
    return None


def seen(error):
    """The class and the attributes of an error, to compare."""
    return None if error is None else (error.__class__.__name__, vars(error))


def all_sets(names):
    """All sets of names, in order, as the document orders them."""
    return [some for many in range(len(names) + 1) for some in combinations(sorted(names), many)]


def random_share(chance, most=6):
    bottom = chance.randint(1, most)
    return (chance.randint(0, bottom), bottom)


def random_system(chance, names):
    """A system of the names, with shares and links by chance."""
    links = [pair for pair in combinations(names, 2) if chance.random() < 0.4]
    return System({name: random_share(chance) for name in names}, links)


def random_world(chance, names):
    """A world of the names by chance, often with sets that never come up."""
    sets = all_sets(names)
    tops = [chance.choice((0, 0, 1, 2, 3)) for _ in sets]
    tops[chance.randrange(len(tops))] += 1
    return World(names, {some: (top, sum(tops)) for some, top in zip(sets, tops)})


def shares_of(world):
    """The outcomes of a world, with Python's own fractions."""
    return {frozenset(some): Fraction(*share) for some, share in world.outcomes().items()}


def together(world, names):
    """The share of the cases in which all of the names happen, reckoned anew."""
    return sum([share for some, share in shares_of(world).items() if some >= set(names)], Fraction(0))


def linked(system, one, other):
    return tuple(sorted([one, other])) in system.links()


def long_share(chance, top=3):
    """A share with a bottom of thirty figures, at most about 1 / top."""
    bottom = chance.randint(10 ** 29, 10 ** 30 - 1)
    return (chance.randint(0, bottom // top), bottom)


def long_system(chance, names, top):
    """A system of the names, with shares of thirty figures and links by chance."""
    links = [link for link in combinations(names, 2) if chance.random() < 0.4]
    return System({name: long_share(chance, top) for name in names}, links)


def some_systems(seed, many, most):
    """Systems of up to so many faults, safe ones and others, also with shares 0 and 1."""
    chance = by_chance(seed)
    for _ in range(many):
        names = "abcdefgh"[:chance.randint(most // 3, most)]
        system = random_system(chance, names)
        size = chance.choice((1, (2, 3), (1, 3)))
        yield chance.choice((system.scaled(size), long_system(chance, names, chance.choice((1, 2, 3)))))


def pair(number):
    """One of Python's fractions, as the package tells it."""
    return (number.numerator, number.denominator)


def sum_by_words(system, names):
    """The free sum of names, reckoned straight by the words of the document."""
    total = Fraction(0)
    for some in all_sets(names):
        if not any(linked(system, one, other) for one, other in combinations(some, 2)):
            total += prod([-Fraction(*system[name]) for name in some], start=Fraction(1))
    return total


def safe_by_words(system, names):
    return all(sum_by_words(system, some) > 0 for some in all_sets(names))


def least_by_words(system, names):
    return sum_by_words(system, names) if safe_by_words(system, names) else Fraction(0)


def by_chance(seed):
    return random.Random(seed)


def random_coin(chance):
    """The shares of a coin's sides, also 0 and 1, also with thirty figures."""
    sides = chance.randint(1, 3)
    if chance.random() < 0.2:
        bottom = chance.randint(10 ** 29, 10 ** 30 - 1)
        tops = [chance.randint(1, bottom // 4) for _ in range(sides - 1)]
        return [*[(top, bottom) for top in tops], (bottom - sum(tops), bottom)]
    tops = [chance.choice((0, 1, 1, 2, 3)) for _ in range(sides)]
    tops[chance.randrange(sides)] += 1
    return [(top, sum(tops)) for top in tops]


def random_fault(chance, coins):
    """A fault of none to three coins, with as many rows as it comes."""
    names = chance.sample(sorted(coins), chance.randint(0 if chance.random() < 0.1 else min(1, len(coins)), len(coins)))
    rows = list(product(*[range(len(coins[name])) for name in names]))
    often = chance.choice((0.15, 0.3, 0.5))
    bad = [list(row) for row in rows if chance.random() < often]
    return (names, bad + chance.choices(bad, k=1) if bad and chance.random() < 0.3 else bad)


def some_coins(seed, many, most=5):
    """Pairs (coins, faults) by chance."""
    chance = by_chance(seed)
    for _ in range(many):
        names = chance.sample(["x", "y", "z", "coin0"], chance.choice((0, 1, 2, 2, 3, 3, 3, 3)))
        coins = {name: random_coin(chance) for name in names}
        faults = chance.sample("abcdef", chance.randint(0 if chance.random() < 0.1 else 1, most))
        yield coins, {name: random_fault(chance, coins) for name in faults}

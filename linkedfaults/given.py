"""Chances among other things, and how great shares may be."""

from linkedfaults.checks import known, told_chance
from linkedfaults.errors import BadNumber, Unsafe
from linkedfaults.fraction import minus, over
from linkedfaults.kinds import is_integer
from linkedfaults.sums import first_unsafe, free_sum, is_safe, least_chance
from linkedfaults.systems import outside


def least_given(system, names, given):
    """The least chance that none of names happens among the cases in which none of given happens."""
    wanted = known(names, list(system))
    stay = known(given, list(system))
    unsafe = first_unsafe(system & stay)
    if unsafe is not None:
        raise Unsafe(unsafe)
    return over(least_chance(system, wanted + stay), free_sum(system, stay))


def greatest_given(system, name, given):
    """The greatest share of a fault among the cases in which none of given happens."""
    return minus((1, 1), least_given(system, [name], given))


def limit(system, name):
    """The least share of a fault with which, all others as they are, not all faults are safe."""
    others = system - [name]
    if not is_safe(others):
        return (0, 1)
    # As the others are safe, no part's free sum comes down to 0 before that of all faults does.
    return over(free_sum(others), free_sum(system, outside(system, [name])))


def room(system, name, chance):
    """The greatest share of a fault with which the least chance is at least so much, or None if there is none."""
    others = system - [name]
    told = told_chance(chance)
    spare = minus(least_chance(others), told)
    if spare[0] < 0:
        return None
    return over(spare, free_sum(system, outside(system, [name])))


def greatest_scale(system, bottom):
    """The greatest k such that the system scaled by (k, bottom) can be made and is safe, or None if each is."""
    if not is_integer(bottom) or bottom < 1:
        raise BadNumber(bottom)
    shares = [share for share in system.shares().values() if share[0] > 0]
    if not shares:
        return None
    safe = 0
    # The least number with which some share would be above 1.
    unsafe = min([bottom * share[1] // share[0] + 1 for share in shares])
    while unsafe - safe > 1:
        middle = (safe + unsafe) // 2
        if is_safe(system.scaled((middle, bottom))):
            safe = middle
        else:
            unsafe = middle
    return safe

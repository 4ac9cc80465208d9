"""What is too much for a chance, and what has to go so that it is not."""

from linkedfaults.checks import told_chance
from linkedfaults.fraction import above
from linkedfaults.sets import meets, parts
from linkedfaults.sums import free_sums
from linkedfaults.systems import System


def asked(chance):
    """The chance that is asked for, None if it is just that the faults are safe; BadShare for any other object."""
    return None if chance is None else told_chance(chance)


def too_little(total, chance):
    """Whether a free sum is less than what is asked for."""
    return total[0] <= 0 if chance is None else above(chance, total)


def lacking(system, chance):
    """The ordered list of the parts whose free sum is less than what is asked for."""
    # Faults do if they have no such part: for safe ones no part's free sum is below their own.
    sums = free_sums(system)
    return [some for some in sums if too_little(sums[some], chance)]


def has_all(some, other):
    """Whether all of the other set is in the one set."""
    return all([thing in some for thing in other])


def least(sets):
    """Those sets of an ordered list that have no other one of them as a part."""
    found = []
    for some in sets:
        if not any([has_all(some, other) for other in found]):
            found.append(some)
    return found


def least_meeting(things, sets):
    """The ordered list of the least sets of things that have something in common with each of some sets."""
    return least([some for some in parts(things) if all([meets(some, other) for other in sets])])


def too_much(system, chance=None):
    """The ordered list of the least parts of the faults that don't do for a chance."""
    return least(lacking(system, asked(chance)))


def mends(system, chance=None):
    """The ordered list of the least sets of faults without which the others do."""
    # The others do if they hold none of what is too much.
    return least_meeting(list(system), too_much(system, chance))


def worst_links(system, chance=None):
    """The ordered list of the least sets of links with which alone all faults don't do."""
    told = asked(chance)
    shares = system.shares()
    return least([some for some in parts(system.links()) if lacking(System(shares, some), told)])


def least_cuts(system, chance=None):
    """The ordered list of the least sets of links without which all faults do."""
    # They do if none of the worst sets of links is left.
    return least_meeting(system.links(), worst_links(system, chance))

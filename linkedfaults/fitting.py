"""Whether a world fits a system."""

from linkedfaults.errors import UnlikeFaults
from linkedfaults.fraction import above, times
from linkedfaults.sets import joined, parts
from linkedfaults.systems import outside


def check_same(system, world):
    """UnlikeFaults if the system and the world don't have the same faults."""
    if list(system) != world.names():
        raise UnlikeFaults()


def too_great(system, world):
    """The least fault whose share in the world is above the system's, or None."""
    for name in system:
        if above(world.chance([name]), system[name]):
            return name
    return None


def chances(world):
    """The dict from all sets of faults to the share of the cases in which all of the set happen."""
    return {some: world.chance(some) for some in parts(world.names())}


def hang_together(together, one, other):
    """Whether two sets with nothing in common happen otherwise than if they were independent."""
    return together[joined(one, other)] != times(together[one], together[other])


def unfit(system, world):
    """None if the world fits the system, else what is wrong."""
    check_same(system, world)
    guilty = too_great(system, world)
    if guilty is not None:
        return ("share", guilty)
    together = chances(world)
    for name in system:
        for some in parts(outside(system, [name])):
            if hang_together(together, (name,), some):
                return ("hang", name, some)
    return None


def fits(system, world):
    """Whether the world fits the system."""
    return unfit(system, world) is None


def fits_groups(system, world):
    """Whether no share is too great, and sets of faults with no link between them are independent."""
    check_same(system, world)
    if too_great(system, world) is not None:
        return False
    together = chances(world)
    for one in parts(world.names()):
        for other in parts(outside(system, one)):
            if hang_together(together, one, other):
                return False
    return True


def too_great_without(system, world, name, some):
    """Whether the share of a fault among the cases in which none of some happens is above the system's."""
    # Multiplied by the share of these cases, so that it holds, too, where there are none.
    return above(world.chance([name], some), times(system[name], world.none(some)))


def fits_loosely(system, world):
    """Whether no share is too great among the cases in which none of what a fault is not linked with happens."""
    check_same(system, world)
    for name in system:
        for some in parts(outside(system, [name])):
            if too_great_without(system, world, name, some):
                return False
    return True

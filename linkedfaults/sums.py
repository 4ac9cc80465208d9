"""Free sums, the least chance that none of some faults happens, and worlds that come down to it."""

from linkedfaults.errors import BadShare, Unsafe
from linkedfaults.fraction import above, minus, multiplied, over, plus, times
from linkedfaults.kinds import share_of
from linkedfaults.sets import parts
from linkedfaults.systems import System, free_sets, outside
from linkedfaults.worlds import World


def sums_of_parts(system, weights):
    """The dict from all parts, in order, to the sums, over their free sets, of the products of the weights."""
    near = {name: system.near(name) for name in system}
    sums = {(): (1, 1)}
    for some in parts(list(system))[1:]:
        name, rest = some[-1], some[:-1]
        # The free sets of a part are those without its last fault, and those in which it goes with what is apart.
        apart = tuple([other for other in rest if other not in near[name]])
        sums[some] = plus(sums[rest], times(weights[name], sums[apart]))
    return sums


def free_sums(system):
    """The dict from all parts of the faults, in order, to their free sums."""
    return sums_of_parts(system, {name: minus((0, 1), system[name]) for name in system})


def chosen(system, names):
    """The system of the faults in a list alone, for None of all of them."""
    return system if names is None else system & names


def first_unsafe(system):
    """The first part, in order, whose free sum is not above 0, which is the first least unsafe one; or None."""
    sums = free_sums(system)
    for some in sums:
        if sums[some][0] <= 0:
            return some
    return None


def free_sum(system, names=None):
    """The sum, over all free sets of names, of the products of their shares, with a minus for each fault."""
    faults = chosen(system, names)
    return free_sums(faults)[tuple(faults)]


def is_safe(system, names=None):
    """Whether the free sum of each part of names is above 0."""
    return first_unsafe(chosen(system, names)) is None


def least_chance(system, names=None):
    """The least chance, in all worlds that fit, that none of names happens."""
    faults = chosen(system, names)
    return free_sum(faults) if is_safe(faults) else (0, 1)


def worst(system):
    """The world in which the chance that none of a part happens is its free sum, for each part."""
    sums = free_sums(system)
    for some in sums:
        if sums[some][0] < 0:
            raise Unsafe(some)
    outcomes = {}
    for some in free_sets(system):
        share = multiplied([system[name] for name in some])
        outcomes[some] = times(share, sums[tuple(outside(system, some))])
    return World(list(system), outcomes)


def lessened(system, chance):
    """The system with lesser shares, so that the free sum of all is just the chance, and that of no part is below 0."""
    sums = free_sums(system)
    shares = {name: (0, 1) for name in system}
    ahead = ()
    for name in system:
        spent = (*ahead, name)
        if not above(sums[spent], chance):
            # As the faults ahead are safe, no part's free sum falls below 0, with a greater share of this fault,
            # before that of all of them does; and this one falls evenly.
            apart = tuple([other for other in ahead if other not in system.near(name)])
            shares[name] = over(minus(sums[ahead], chance), sums[apart])
            break
        shares[name] = system[name]
        ahead = spent
    return System(shares, system.links())


def world_with(system, chance):
    """A world that fits and in which the chance that nothing happens is just so much, or None."""
    told = share_of(chance)
    if told is None:
        raise BadShare(chance)
    if above(least_chance(system), told):
        return None
    return worst(lessened(system, told))


def no_way_out(system):
    """A world that fits and in which always some fault happens, or None if all are safe."""
    if is_safe(system):
        return None
    return worst(lessened(system, (0, 1)))

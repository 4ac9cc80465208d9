"""Papers and sheets: weights of the faults that prove that they are safe."""

from linkedfaults.errors import NoPaper
from linkedfaults.fraction import above, minus, multiplied, over, times
from linkedfaults.kinds import amount_of
from linkedfaults.sums import sums_of_parts


def told_weights(system, weights):
    """The dict from all faults to the fractions from 0 on that any object tells, or None if it is no such dict."""
    if not isinstance(weights, dict) or len(weights) != len(system):
        return None
    told = {}
    for name in system:
        weight = amount_of(weights.get(name))
        if weight is None:
            return None
        told[name] = weight
    return told


def rest_of(weights, names):
    """The product, over some faults, of 1 less their weights."""
    return multiplied([minus((1, 1), weights[name]) for name in names])


def paper_of(system, weights):
    """The dict of the weights of a paper, or None if any object is none."""
    told = told_weights(system, weights)
    if told is None or any([weight[0] >= weight[1] for weight in told.values()]):
        return None
    for name in system:
        if above(system[name], times(told[name], rest_of(told, system.near(name)))):
            return None
    return told


def is_paper(system, weights):
    """Whether any object is a paper."""
    return paper_of(system, weights) is not None


def paper_bound(system, weights):
    """The product, over all faults, of 1 less the weight; the least chance is not below it."""
    told = paper_of(system, weights)
    if told is None:
        raise NoPaper()
    return rest_of(told, list(system))


def sums_of_sheet(system, weights):
    """The dict from all parts to the sums over their free sets by a sheet's weights, or None if any object is none."""
    told = told_weights(system, weights)
    if told is None:
        return None
    sums = sums_of_parts(system, told)
    for name in system:
        around = tuple(sorted([name, *system.near(name)]))
        if above(times(system[name], sums[around]), told[name]):
            return None
    return sums


def is_sheet(system, weights):
    """Whether any object is a sheet."""
    return sums_of_sheet(system, weights) is not None


def sheet_bound(system, weights):
    """1 divided by the sum, over all free sets, of the products of the weights; the least chance is not below it."""
    sums = sums_of_sheet(system, weights)
    if sums is None:
        raise NoPaper()
    return over((1, 1), sums[tuple(system)])

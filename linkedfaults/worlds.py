"""Worlds: how often just which faults happen."""

from linkedfaults.checks import check_apart, known
from linkedfaults.errors import BadName, BadNumber, BadOutcome, BadSum, Never
from linkedfaults.fraction import over, plus, summed, times
from linkedfaults.kinds import amount_of, is_name, set_of
from linkedfaults.sets import in_order, joined


def told_names(names):
    """The ascending list of the names; BadName for the first thing that is none or stood before."""
    told = []
    for name in names:
        if not is_name(name) or name in told:
            raise BadName(name)
        told.append(name)
    return sorted(told)


def told_sets(outcomes, names):
    """The dict from the sets to what was told of them; BadOutcome for the first key that is no new set."""
    told = {}
    for key in outcomes:
        some = set_of(key, names)
        if some is None or some in told:
            raise BadOutcome(key)
        told[some] = outcomes[key]
    return told


def told_outcomes(outcomes, names):
    """The dict of the sets with a share above 0, in order; BadOutcome, BadNumber and BadSum."""
    told = told_sets(outcomes, names)
    shares = {}
    for some in told:
        share = amount_of(told[some])
        if share is None:
            raise BadNumber(told[some])
        shares[some] = share
    if summed(list(shares.values())) != (1, 1):
        raise BadSum()
    return {some: shares[some] for some in in_order(list(shares)) if shares[some][0] > 0}


def comes_up(some, happen, stay):
    """Whether all of the one list are in a set, and none of the other one."""
    return all([name in some for name in happen]) and not any([name in some for name in stay])


class World:
    """The share of the cases in which just these faults happen, for each set of them. It never changes."""

    def __init__(self, names, outcomes):
        self._names = told_names(names)
        self._outcomes = told_outcomes(outcomes, self._names)

    def __eq__(self, other):
        return isinstance(other, World) and self._names == other._names and self._outcomes == other._outcomes

    def __len__(self):
        return len(self._outcomes)

    def __iter__(self):
        return iter(self._outcomes)

    def __getitem__(self, at):
        some = set_of(at, self._names)
        if some is None:
            raise BadOutcome(at)
        return self._outcomes.get(some, (0, 1))

    def names(self):
        """The ascending list of the names."""
        return list(self._names)

    def outcomes(self):
        """The dict of the sets with a share above 0, in order."""
        return {some: self._outcomes[some] for some in self._outcomes}

    def chance(self, happen, stay=()):
        """The share of the cases in which all of the one list happen and none of the other one."""
        wanted = known(happen, self._names)
        barred = known(stay, self._names)
        return summed([self._outcomes[some] for some in self._outcomes if comes_up(some, wanted, barred)])

    def none(self, names=None):
        """The share of the cases in which none of a list happens; for None, none at all."""
        return self.chance([], self._names if names is None else names)

    def __and__(self, other):
        """The world of the names in a list alone."""
        names = known(other, self._names)
        shares = {}
        for some in self._outcomes:
            seen = tuple([name for name in some if name in names])
            shares[seen] = plus(shares.get(seen, (0, 1)), self._outcomes[some])
        return World(names, shares)

    def __mul__(self, other):
        """The world of both, which have nothing to do with one another."""
        if not isinstance(other, World):
            return NotImplemented
        check_apart(self._names, other._names)
        shares = {}
        for one in self._outcomes:
            for two in other._outcomes:
                shares[joined(one, two)] = times(self._outcomes[one], other._outcomes[two])
        return World(self._names + other._names, shares)

    def given(self, stay):
        """The world of those cases in which none of a list happens, with the other names."""
        barred = known(stay, self._names)
        cases = [some for some in self._outcomes if comes_up(some, [], barred)]
        if not cases:
            raise Never()
        total = summed([self._outcomes[some] for some in cases])
        names = [name for name in self._names if name not in barred]
        return World(names, {some: over(self._outcomes[some], total) for some in cases})

    @staticmethod
    def quiet(names):
        """The world in which never anything happens."""
        return World(names, {(): (1, 1)})

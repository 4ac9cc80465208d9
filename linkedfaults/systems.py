"""Systems: faults, the greatest share that each may have, and which of them are linked."""

from linkedfaults.checks import check_apart, known
from linkedfaults.errors import BadFault, BadLink, BadNumber, BadShare, BadSum, NoFault, SameFault
from linkedfaults.fraction import summed, times
from linkedfaults.kinds import amount_of, is_list, is_name, share_of


def told_shares(shares, taken):
    """The dict of the shares as told; BadFault for the first key that is no name, is taken, or has no share."""
    told = {}
    for key in shares:
        share = share_of(shares[key])
        if not is_name(key) or key in taken or share is None:
            raise BadFault(key)
        told[key] = share
    return told


def is_link(thing, faults):
    """Whether any object is a pair of unlike faults."""
    if not is_list(thing) or len(thing) != 2:
        return False
    return thing[0] in faults and thing[1] in faults and thing[0] != thing[1]


def told_links(links, faults):
    """The ascending list of the links, each once; BadLink for the first thing that is none."""
    if not is_list(links):
        raise BadLink(0)
    told = []
    for index, link in enumerate(links):
        if not is_link(link, faults):
            raise BadLink(index)
        pair = tuple(sorted(link))
        if pair not in told:
            told.append(pair)
    return sorted(told)


def ends_at(links, name):
    """The ascending list of what is linked with a fault."""
    return sorted([one if other == name else other for one, other in links if name in (one, other)])


class System:
    """Faults with the greatest share that each may have, and the links between them. It never changes."""

    def __init__(self, shares, links=()):
        told = told_shares(shares, ())
        self._faults = sorted(told)
        self._shares = {name: told[name] for name in self._faults}
        self._links = told_links(links, self._faults)
        self._near = {name: ends_at(self._links, name) for name in self._faults}

    def __eq__(self, other):
        return isinstance(other, System) and self._shares == other._shares and self._links == other._links

    def __len__(self):
        return len(self._faults)

    def __iter__(self):
        return iter(self._faults)

    def __contains__(self, x):
        return x in self._faults

    def __getitem__(self, at):
        if at not in self._faults:
            raise NoFault(at)
        return self._shares[at]

    def shares(self):
        """The ascending dict of the shares."""
        return {name: self._shares[name] for name in self._faults}

    def links(self):
        """The ascending list of the links, each an ascending pair."""
        return list(self._links)

    def near(self, name):
        """The ascending list of the faults that a fault is linked with."""
        if name not in self._faults:
            raise NoFault(name)
        return list(self._near[name])

    def __and__(self, other):
        """The system of the faults in a list alone."""
        kept = known(other, self._faults)
        links = [link for link in self._links if link[0] in kept and link[1] in kept]
        return System({name: self._shares[name] for name in kept}, links)

    def __sub__(self, other):
        """The system of all faults but those in a list."""
        gone = known(other, self._faults)
        return self & [name for name in self._faults if name not in gone]

    def __add__(self, other):
        """The system of the faults of both, with no link between them."""
        if not isinstance(other, System):
            return NotImplemented
        check_apart(self._faults, other._faults)
        return System({**self._shares, **other._shares}, self._links + other._links)

    def __mul__(self, other):
        """The system of the faults of both, each of one linked with each of the other."""
        if not isinstance(other, System):
            return NotImplemented
        check_apart(self._faults, other._faults)
        across = [(one, two) for one in self._faults for two in other._faults]
        return System({**self._shares, **other._shares}, self._links + other._links + across)

    def changed(self, name, share):
        """The system in which a fault has another share."""
        known([name], self._faults)
        told = share_of(share)
        if told is None:
            raise BadShare(share)
        return System({**self._shares, name: told}, self._links)

    def tied(self, one, other):
        """The system in which two faults are linked."""
        return System(self._shares, [*self._links, self._pair(one, other)])

    def untied(self, one, other):
        """The system in which two faults are not linked."""
        pair = self._pair(one, other)
        return System(self._shares, [link for link in self._links if link != pair])

    def _pair(self, one, other):
        """The ascending pair of two unlike faults."""
        known([one, other], self._faults)
        if one == other:
            raise SameFault(one)
        return tuple(sorted([one, other]))

    def more(self, name, share, near=()):
        """The system with a further fault, linked with those in near."""
        told = share_of(share)
        if not is_name(name) or name in self._faults or told is None:
            raise BadFault(name)
        links = [(name, other) for other in known(near, self._faults)]
        return System({**self._shares, name: told}, self._links + links)

    def scaled(self, number):
        """The system in which each fault has so many times its share."""
        factor = amount_of(number)
        if factor is None:
            raise BadNumber(number)
        # The faults ascend, so a new system refuses the least one whose share would be above 1.
        return System({name: times(self._shares[name], factor) for name in self._faults}, self._links)

    def split(self, name, shares):
        """The system with new faults in the place of a fault, linked with one another and with what it was."""
        near = self.near(name)
        rest = self - [name]
        told = told_shares(shares, list(rest))
        if not told or summed(list(told.values())) != self._shares[name]:
            raise BadSum()
        within = [(one, two) for one in told for two in told if one != two]
        outward = [(one, other) for one in told for other in near]
        return System({**rest.shares(), **told}, rest.links() + within + outward)


def free_sets(system):
    """The list of all sets of faults no two of which are linked."""
    found = [()]
    for name in system:
        near = system.near(name)
        found = found + [(*some, name) for some in found if not any([one in near for one in some])]
    return found


def outside(system, some):
    """The ascending list of the faults that are neither in some nor linked with one of them."""
    return [name for name in system if name not in some and not any([one in some for one in system.near(name)])]

"""Sets of names: ascending tuples of unlike names."""


def in_order(sets):
    """The list of the sets in order: those with fewer names first, else as Python orders them."""
    return sorted(sorted(sets), key=len)


def parts(names):
    """The ordered list of all sets of some of the ascending names."""
    found = [()]
    for name in names:
        found = found + [(*some, name) for some in found]
    return in_order(found)


def joined(one, other):
    """The set of what is in one of two sets that have nothing in common."""
    return tuple(sorted([*one, *other]))


def meets(some, other):
    """Whether two sets have something in common."""
    return any([thing in some for thing in other])

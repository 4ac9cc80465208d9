"""The kinds of values that callers tell: integers, names, fractions, shares, sets."""

from linkedfaults.fraction import lowest

LETTERS = "abcdefghijklmnopqrstuvwxyz"
FIGURES = "0123456789"
LONGEST = 8
DEEPEST = 8


def is_integer(thing):
    """Whether any object is an integer; True and False are none."""
    return isinstance(thing, int) and not isinstance(thing, bool)


def is_list(thing):
    """Whether any object is a list, or a tuple, which may be passed in its place."""
    return isinstance(thing, (list, tuple))


def is_name(thing):
    """Whether any object is a name."""
    if not isinstance(thing, str) or not 1 <= len(thing) <= LONGEST:
        return False
    return thing[0] in LETTERS and all([sign in LETTERS or sign in FIGURES for sign in thing])


def fraction_of(thing):
    """The fraction that any object tells, in lowest terms, or None if it tells none."""
    if is_integer(thing):
        return (thing, 1)
    if not is_list(thing) or len(thing) != 2:
        return None
    top, bottom = thing
    if not is_integer(top) or not is_integer(bottom) or bottom < 1:
        return None
    return lowest(top, bottom)


def amount_of(thing):
    """The fraction from 0 on that any object tells, or None if it tells none."""
    told = fraction_of(thing)
    if told is None or told[0] < 0:
        return None
    return told


def share_of(thing):
    """The share that any object tells, or None if it tells none."""
    told = amount_of(thing)
    if told is None or told[0] > told[1]:
        return None
    return told


def set_of(thing, names):
    """The set of some of the ascending names that any object tells, or None if it tells none."""
    if not is_list(thing):
        return None
    some = [name for name in names if name in thing]
    # What stands twice in thing, or is none of the names, makes it longer than the set.
    if len(some) != len(thing):
        return None
    return tuple(some)


def copied(thing, depth=DEEPEST):
    """A copy of any object that later changes to the lists and dicts in it don't reach."""
    # An error has to be made of an object however deep it is, also of one that contains itself.
    if depth == 0:
        return thing
    if isinstance(thing, list):
        return [copied(part, depth - 1) for part in thing]
    if isinstance(thing, tuple):
        return tuple([copied(part, depth - 1) for part in thing])
    if isinstance(thing, dict):
        return {key: copied(thing[key], depth - 1) for key in thing}
    return thing

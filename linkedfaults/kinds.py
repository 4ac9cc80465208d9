"""The kinds of values that callers tell: integers, names, fractions, shares, sets."""

from linkedfaults.fraction import lowest

LETTERS = "abcdefghijklmnopqrstuvwxyz"
FIGURES = "0123456789"
LONGEST = 8
MOST = 1000000


def is_integer(thing):
    """Whether any object is an integer; True and False are none."""
    return isinstance(thing, int) and not isinstance(thing, bool)


def is_list(thing):
    """Whether any object is a list, or a tuple, which may be passed in its place."""
    return isinstance(thing, (list, tuple))


def is_name(thing):
    """Whether any object is a name."""
    if not isinstance(thing, str) or not 1 <= len(thing) <= LONGEST:
        return False
    return thing[0] in LETTERS and all([sign in LETTERS or sign in FIGURES for sign in thing])


def fraction_of(thing):
    """The fraction that any object tells, in lowest terms, or None if it tells none."""
    if is_integer(thing):
        return (thing, 1)
    if not is_list(thing) or len(thing) != 2:
        return None
    top, bottom = thing
    if not is_integer(top) or not is_integer(bottom) or bottom < 1:
        return None
    return lowest(top, bottom)


def amount_of(thing):
    """The fraction from 0 on that any object tells, or None if it tells none."""
    told = fraction_of(thing)
    if told is None or told[0] < 0:
        return None
    return told


def share_of(thing):
    """The share that any object tells, or None if it tells none."""
    told = amount_of(thing)
    if told is None or told[0] > told[1]:
        return None
    return told


def set_of(thing, names):
    """The set of some of the ascending names that any object tells, or None if it tells none."""
    if not is_list(thing):
        return None
    some = [name for name in names if name in thing]
    # What stands twice in thing, or is none of the names, makes it longer than the set.
    if len(some) != len(thing):
        return None
    return tuple(some)


def contents(thing):
    """The list of what a list, a tuple or a dict contains, its keys left out; an empty one of anything else."""
    if isinstance(thing, dict):
        return list(thing.values())
    return list(thing) if is_list(thing) else []


def refilled(thing, within):
    """A list, a tuple or a dict like this one, but with these contents; anything else as it is."""
    if isinstance(thing, dict):
        return {key: within[at] for at, key in enumerate(thing)}
    if isinstance(thing, tuple):
        return tuple(within)
    return within if isinstance(thing, list) else thing


def copied(thing):
    """A copy of any object that later changes to the lists and dicts in it don't reach."""
    # Not by recursion: an object may be deeper than Python lets functions call one another.
    found = [thing]
    spans = []
    # What contains itself has no end, but an error has to be made of it, too.
    while len(spans) < len(found) < MOST:
        within = contents(found[len(spans)])
        spans.append((len(found), len(found) + len(within)))
        found.extend(within)
    copies = list(found)
    # What contains something stands ahead of it, so the copies of its contents are there first.
    for at in reversed(range(len(spans))):
        first, last = spans[at]
        copies[at] = refilled(found[at], copies[first:last])
    return copies[0]

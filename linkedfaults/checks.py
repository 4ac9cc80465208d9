"""Checks of what callers tell that several files have in common."""

from linkedfaults.errors import BadShare, Clash, NoFault
from linkedfaults.kinds import share_of


def known(things, names):
    """Which of the ascending names a list tells, each once; NoFault for the first thing that is none."""
    for thing in things:
        if thing not in names:
            raise NoFault(thing)
    return [name for name in names if name in things]


def check_apart(names, others):
    """Clash with the least of the ascending names that is one of the others, too."""
    for name in names:
        if name in others:
            raise Clash(name)


def told_chance(chance):
    """The share above 0 that any object tells; BadShare if it tells none."""
    told = share_of(chance)
    if told is None or told[0] == 0:
        raise BadShare(chance)
    return told

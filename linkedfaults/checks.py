"""Checks of what callers tell that systems and worlds have in common."""

from linkedfaults.errors import Clash, NoFault


def known(things, names):
    """Which of the ascending names a list tells, each once; NoFault for the first thing that is none."""
    for thing in things:
        if thing not in names:
            raise NoFault(thing)
    return [name for name in names if name in things]


def check_apart(names, others):
    """Clash with the least of the ascending names that is one of the others, too."""
    for name in names:
        if name in others:
            raise Clash(name)

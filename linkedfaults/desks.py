"""Desks: systems that change, by deeds that can be taken back."""

from linkedfaults.errors import BadName, NoDeed, NoWatch
from linkedfaults.kinds import is_name
from linkedfaults.sums import least_chance


class Desk:
    """A system that changes, and chances that are watched meanwhile."""

    def __init__(self, system):
        # A trial brings these four back, so none of them is changed: another one takes its place.
        self._system = system
        self._watched = {}
        self._done = []
        self._undone = []

    def system(self):
        """The system as it is now."""
        return self._system

    def put(self, name, share, near=()):
        """Has a further fault, linked with those in near."""
        return self._deed(self._system.more(name, share, near))

    def drop(self, name):
        """Has a fault no more."""
        return self._deed(self._system - [name])

    def change(self, name, share):
        """Gives a fault another share."""
        return self._deed(self._system.changed(name, share))

    def tie(self, one, other):
        """Links two faults."""
        return self._deed(self._system.tied(one, other))

    def untie(self, one, other):
        """Takes the link between two faults away, if there is one."""
        return self._deed(self._system.untied(one, other))

    def watch(self, word, names):
        """Watches a list of names under a word."""
        if not is_name(word) or word in self._watched:
            raise BadName(word)
        for name in names:
            if not is_name(name):
                raise BadName(name)
        self._watched = {**self._watched, word: list(names)}

    def unwatch(self, word):
        """Watches what is watched under a word no more."""
        if not is_name(word) or word not in self._watched:
            raise NoWatch(word)
        self._watched = {other: names for other, names in self._watched.items() if other != word}

    def chances(self):
        """The ascending dict from the words to the least chances for what is watched."""
        return {word: self._least(self._watched[word]) for word in sorted(self._watched)}

    def undo(self):
        """Takes the last deed back that is not taken back."""
        if not self._done:
            raise NoDeed()
        return self._turn(self._done[-1], self._done[:-1], [*self._undone, self._system])

    def again(self):
        """Does the last deed again that was taken back."""
        if not self._undone:
            raise NoDeed()
        return self._turn(self._undone[-1], [*self._done, self._system], self._undone[:-1])

    def trial(self, work):
        """Calls a function with the desk; behind it the desk is as it was before."""
        system, watched, done, undone = self._system, self._watched, self._done, self._undone
        try:
            return work(self)
        finally:
            self._system, self._watched, self._done, self._undone = system, watched, done, undone

    def _least(self, names):
        """The least chance for those names that are faults now."""
        return least_chance(self._system, [name for name in names if name in self._system])

    def _deed(self, system):
        """Has another system, by a deed, and returns the news."""
        return self._turn(system, [*self._done, self._system], [])

    def _turn(self, system, done, undone):
        """Has another system, and others ahead of and behind it; returns what is news to those who watch."""
        ahead = self.chances()
        self._system, self._done, self._undone = system, done, undone
        chances = self.chances()
        return [(word, chances[word]) for word in chances if chances[word] != ahead[word]]

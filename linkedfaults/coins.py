"""Coins that are thrown, and the faults that come of them."""

from linkedfaults.chains import average_visits
from linkedfaults.errors import BadCoin, BadFault, BadOrder, BadSetting, NoEnd, Unsafe
from linkedfaults.fraction import multiplied, over, plus, summed, times
from linkedfaults.kinds import is_integer, is_list, is_name, set_of, share_of
from linkedfaults.sets import meets
from linkedfaults.sums import first_unsafe, free_sum
from linkedfaults.systems import System, outside
from linkedfaults.worlds import World


def told_sides(thing):
    """The list of the shares of a coin's sides that any object tells, or None if it tells none."""
    if not is_list(thing):
        return None
    sides = [share_of(share) for share in thing]
    if any([side is None for side in sides]) or summed(sides) != (1, 1):
        return None
    return sides


def told_coins(coins):
    """The ascending dict from the coins to the lists of their shares; BadCoin for the first key that tells none."""
    told = {}
    for key in coins:
        sides = told_sides(coins[key])
        if not is_name(key) or sides is None:
            raise BadCoin(key)
        told[key] = sides
    return {name: told[name] for name in sorted(told)}


def is_row(thing, counts):
    """Whether any object is a row of sides, one of each of some coins with so many sides."""
    if not is_list(thing) or len(thing) != len(counts):
        return False
    return all([is_integer(side) and 0 <= side < count for side, count in zip(thing, counts)])


def told_fault(thing, coins):
    """The pair (tuple of coins, list of rows of sides) that any object tells, or None if it tells none."""
    if not is_list(thing) or len(thing) != 2:
        return None
    names, bad = thing
    if set_of(names, list(coins)) is None or not is_list(bad):
        return None
    counts = [len(coins[name]) for name in names]
    if not all([is_row(row, counts) for row in bad]):
        return None
    return (tuple(names), [tuple(row) for row in bad])


def told_faults(faults, coins):
    """The ascending dict from the faults to what is told of them; BadFault for the first key that tells none."""
    told = {}
    for key in faults:
        fault = told_fault(faults[key], coins)
        if not is_name(key) or fault is None:
            raise BadFault(key)
        told[key] = fault
    return {name: told[name] for name in sorted(told)}


def rows_of(counts):
    """The ascending list of all rows of sides of coins with so many sides."""
    rows = [()]
    for count in counts:
        rows = [(*row, side) for row in rows for side in range(count)]
    return rows


def agree(one, other, names):
    """Whether some coins lie in one setting as they lie in another one."""
    return all([one[name] == other[name] for name in names])


class Coins:
    """Coins, each thrown by itself, and faults that happen if their coins lie so. It never changes."""

    def __init__(self, coins, faults):
        self._coins = told_coins(coins)
        self._faults = told_faults(faults, self._coins)

    def settings(self):
        """The list of all settings, in ascending order of their rows of sides."""
        rows = rows_of([len(sides) for sides in self._coins.values()])
        return [{name: side for name, side in zip(self._coins, row)} for row in rows]

    def happening(self, setting):
        """The ascending list of the faults that happen in a setting."""
        if not self._is_setting(setting):
            raise BadSetting()
        return [name for name in self._faults if self._happens(name, setting)]

    def _is_setting(self, thing):
        """Whether any object is a setting."""
        if not isinstance(thing, dict) or len(thing) != len(self._coins):
            return False
        # A key that is missing has no side.
        sides = [thing.get(name) for name in self._coins]
        return is_row(sides, [len(self._coins[name]) for name in self._coins])

    def _happens(self, name, setting):
        """Whether a fault happens in a setting."""
        coins, bad = self._faults[name]
        return tuple([setting[coin] for coin in coins]) in bad

    def _chance(self, setting, names):
        """The chance that some coins, thrown, lie as in a setting."""
        return multiplied([self._coins[name][setting[name]] for name in names])

    def _coming(self):
        """The list of the settings that come up at all, in order."""
        return [setting for setting in self.settings() if self._chance(setting, self._coins)[0] > 0]

    def world(self):
        """The world of the faults."""
        outcomes = {}
        for setting in self.settings():
            some = tuple(self.happening(setting))
            outcomes[some] = plus(outcomes.get(some, (0, 1)), self._chance(setting, self._coins))
        return World(list(self._faults), outcomes)

    def system(self):
        """The system in which each fault has just its share, linked with those that have a coin in common with it."""
        world = self.world()
        pairs = [(one, other) for one in self._faults for other in self._faults if one < other]
        links = [(one, other) for one, other in pairs if meets(self._faults[one][0], self._faults[other][0])]
        return System({name: world.chance([name]) for name in self._faults}, links)

    def way_out(self):
        """The first setting, of those that come up at all, in which nothing happens, or None."""
        for setting in self._coming():
            if not self.happening(setting):
                return setting
        return None

    def throws(self, order):
        """The ascending dict from all faults to the average numbers of times that their coins are thrown anew."""
        names = list(self._faults)
        if set_of(order, names) != tuple(names):
            raise BadOrder()
        # The first fault does not happen in a way out, so its coins, thrown anew, may come to lie as there: one more
        # coin at least than before. So where there is a way out it comes to an end.
        if self.way_out() is None:
            raise NoEnd()
        settings = self._coming()
        thrown = [self._first(setting, order) for setting in settings]
        moves = [self._moves(setting, name, settings) for setting, name in zip(settings, thrown)]
        visits = average_visits([self._chance(setting, self._coins) for setting in settings], moves)
        return {name: summed([visits[at] for at, fault in enumerate(thrown) if fault == name]) for name in names}

    def _first(self, setting, order):
        """The first fault of an order that happens in a setting, or None."""
        for name in order:
            if self._happens(name, setting):
                return name
        return None

    def _moves(self, setting, name, settings):
        """The chances of all settings to be the next one if a fault's coins are thrown anew; none for no fault."""
        if name is None:
            return []
        thrown = self._faults[name][0]
        kept = [coin for coin in self._coins if coin not in thrown]
        return [self._chance(other, thrown) if agree(setting, other, kept) else (0, 1) for other in settings]


def throws_bound(system, name):
    """How often, on average, a fault is thrown anew at most if the system of some coins is this safe one."""
    share = system[name]
    unsafe = first_unsafe(system)
    if unsafe is not None:
        raise Unsafe(unsafe)
    return over(times(share, free_sum(system, outside(system, [name]))), free_sum(system))

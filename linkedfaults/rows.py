"""Rows of faults without end, each linked with the next one, and fans: trees of faults."""

from linkedfaults.errors import BadCount, BadPlace, BadShare
from linkedfaults.fraction import above, lowest, minus, multiplied, times
from linkedfaults.kinds import is_integer, is_list, share_of
from linkedfaults.systems import System

LONGEST_SYSTEM = 8
WIDEST_FAN = 9
DEEPEST_FAN = 3


def check_place(thing):
    """BadPlace if any object is no integer from 0 on."""
    if not is_integer(thing) or thing < 0:
        raise BadPlace(thing)


def check_count(thing):
    """BadCount if any object is no integer from 0 on."""
    if not is_integer(thing) or thing < 0:
        raise BadCount(thing)


def check_many(thing):
    """BadCount if a fan can't have any object as the number of faults below each one."""
    if not is_integer(thing) or not 1 <= thing <= WIDEST_FAN:
        raise BadCount(thing)


def told_row(shares):
    """The list of the shares that any object tells; BadCount and BadShare."""
    if not is_list(shares) or not shares:
        raise BadCount(0)
    told = []
    for thing in shares:
        share = share_of(thing)
        if share is None:
            raise BadShare(thing)
        told.append(share)
    return told


def shortest(shares):
    """The shortest list that, told again and again, tells the same as a list that is told again and again."""
    for length in range(1, len(shares)):
        turns = len(shares) // length
        if shares[:length] * turns == shares:
            return shares[:length]
    return shares


def behind(x, share):
    """What going past a fault makes of the quotient of two integers: 1 less the share divided by it."""
    # Not in lowest terms: so nothing is divided, and each of the two changes evenly with both.
    return (x[0] * share[1] - x[1] * share[0], x[0] * share[1])


class Row:
    """A row of faults without end, whose shares come again and again. It never changes."""

    def __init__(self, shares):
        self._shares = shortest(told_row(shares))

    def __eq__(self, other):
        return isinstance(other, Row) and self._shares == other._shares

    def __getitem__(self, at):
        check_place(at)
        return self._shares[at % len(self._shares)]

    def __iter__(self):
        raise TypeError("a row has no end")

    def shares(self):
        """The list of the shares, as short as the row can be told with."""
        return list(self._shares)

    def system(self, start, count):
        """The system of count neighbours from a place on, with the names f0, f1 and so on."""
        check_place(start)
        check_count(count)
        if count > LONGEST_SYSTEM:
            raise BadCount(count)
        links = [(f"f{k}", f"f{k + 1}") for k in range(count - 1)]
        return System({f"f{k}": self[start + k] for k in range(count)}, links)

    def chance(self, start, count):
        """The least chance that none of count neighbours from a place on happens."""
        check_place(start)
        check_count(count)
        x, bottom = (1, 1), 1
        for place in range(start, start + count):
            share = self[place]
            # The free sums of the neighbours up to here and up to the fault ahead, both times the bottom.
            x = behind(x, share)
            bottom = bottom * share[1]
            if x[0] <= 0:
                return (0, 1)
        return lowest(x[0], bottom)

    def unsafe_at(self, start=0):
        """The least count of neighbours from a place on that are not safe; None if any many are."""
        check_place(start)
        if self.stay() is not None:
            return None
        place, x = start, (1, 1)
        # As there is no stay, this comes to an end.
        while x[0] > 0:
            x = behind(x, self[place])
            place += 1
        return place - start

    def stay(self):
        """A fraction that going through the row from the place 0 does not lessen, or None if there is none."""
        one, other = (1, 0), (0, 1)
        for share in self._shares:
            one, other = behind(one, share), behind(other, share)
        # In the end x is (one[0] x + other[0]) / (one[1] x + other[1]); one[1] is above 0 if going from 1 goes well.
        if one[1] <= 0:
            return None
        # How far that is above x has, times its bottom, the shape of an arch: if it comes up to 0, then in its middle.
        middle = lowest(one[0] - other[1], 2 * one[1])
        return middle if self.is_stay(middle) else None

    def is_stay(self, thing):
        """Whether any object is a stay."""
        told = share_of(thing)
        if told is None or told[0] == 0:
            return False
        x = told
        for share in self._shares:
            x = behind(x, share)
            if x[0] <= 0:
                return False
        return not above(told, x)


def fan_limit(many):
    """The greatest share with which fans of any depth are safe if all faults have it."""
    check_many(many)
    return times(multiplied([(many, many + 1)] * many), (1, many + 1))


def fan_chance(share, many, depth):
    """The least chance that none of a fan's faults happens."""
    told = share_of(share)
    if told is None:
        raise BadShare(share)
    check_many(many)
    if not is_integer(depth) or not 0 <= depth <= DEEPEST_FAN:
        raise BadCount(depth)
    chance, below = (1, 1), (1, 1)
    for _ in range(depth + 1):
        # Ahead of this line, below is the free sum of all faults below the top of a fan that is a level less deep.
        apart = multiplied([below] * many)
        below = multiplied([chance] * many)
        chance = minus(below, times(told, apart))
        if chance[0] <= 0:
            return (0, 1)
    return chance

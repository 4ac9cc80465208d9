"""Moving by chance from place to place until an end is reached.

Moves are a list that holds, for each place, the list of the chances of all places to be the next one; an empty list
for an end. From each place an end can be reached.
"""

from linkedfaults.fraction import minus, over, times


def less(row, number, other):
    """A list of fractions, less so many times another one."""
    if number[0] == 0:
        return row
    return [minus(one, times(number, two)) for one, two in zip(row, other)]


def solved(equations):
    """The list of the unknowns of equations, each a list of factors and, at its end, of what they come to."""
    rows = equations
    for at in range(len(equations)):
        # The factor at this place is above 0 by now, as from each place an end can be reached.
        leading = [over(factor, rows[at][at]) for factor in rows[at]]
        rows = [leading if k == at else less(row, row[at], leading) for k, row in enumerate(rows)]
    return [row[-1] for row in rows]


def factor_of(moves, place, other):
    """How the visits of another place count in the equation of a place: those of its own, less those moved on to it."""
    own = (1, 1) if place == other else (0, 1)
    return minus(own, moves[other][place]) if moves[other] else own


def average_visits(starts, moves):
    """The list of the average numbers of visits of all places, by the chances to start there."""
    places = range(len(moves))
    return solved([[*[factor_of(moves, place, other) for other in places], starts[place]] for place in places])

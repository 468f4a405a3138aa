"""Weights by which every rule loses, or uses of the rules that change nothing: exactly one of the two is there.

That is Gordan's theorem; the simplex method finds the one that is there. It asks for as many uses of the rules as
can be by which no mood loses. A rule keeps the number of folk, so no mood gains by such uses either: they change
nothing. If there are some, there are as many as one likes, and the search comes to a column that nothing bounds: by
it the uses are told. If there are none, the search comes to a point where no column raises the uses any more: then
the prices that the last line puts on the moods are the weights.

The columns of the table are the uses of each rule, then the gain of each mood. Each line but the last one belongs to
one column, for which it is solved: that column has the scale there and 0 in all other lines, and the line's numbers,
times what their columns stand for, add up to 0. The last line's numbers, times what their columns stand for, add up
to the scale times the number of uses. All numbers are integers.
"""

from math import gcd


def first_table(losses, width):
    """Return the table, of scale 1, whose lines are solved for the gains of the moods, in order."""
    table = []
    for mood in range(width):
        gains = [1 if other == mood else 0 for other in range(width)]
        table.append([loss[mood] for loss in losses] + gains)
    table.append([1] * len(losses) + [0] * width)
    return table


def column_to_raise(last):
    """Return the first column that raises the uses, None if there is none."""
    for column, rise in enumerate(last):
        if rise > 0:
            return column
    return None


def line_to_solve(table, solved, column):
    """Return a line that keeps the column from being raised, None if none does.

    Of several lines it is the one solved for the first column so far. Together with the choice of the first column
    to raise this is Bland's rule, without which the search could go round in a circle.
    """
    best = None
    for line, held in enumerate(solved):
        if table[line][column] > 0 and (best is None or held < solved[best]):
            best = line
    return best


def solved_table(table, line, column, scale):
    """Return the table with the line solved for the column; the number at that place is the new scale.

    The divisions leave no rest, as all numbers of such tables are determinants within the first one (Edmonds).
    """
    lead = table[line]
    made = []
    for at, numbers in enumerate(table):
        if at == line:
            made.append(list(lead))
        else:
            most, less = lead[column], numbers[column]
            made.append([(most * own - less * other) // scale for own, other in zip(numbers, lead)])
    return made


def without_common_part(numbers):
    """Return the integers, which are not all 0, divided by the greatest integer that divides all of them."""
    part = 0
    for number in numbers:
        part = gcd(part, number)
    return tuple([number // part for number in numbers])


def uses_of(table, solved, column, scale, many):
    """Return how often to use each of the rules, `many` in number, if no line keeps the column from being raised.

    Lines that are solved for a mood's gain tell nothing here, as all of these gains are 0.
    """
    uses = [0] * many
    uses[column] = scale
    for line, held in enumerate(solved):
        if held < many:
            uses[held] = -table[line][column]
    return without_common_part(uses)


def balance(losses, width):
    """Return (weights, None) or (None, uses): tuples of integers from 0 on, for each mood and for each rule.

    losses tells for each rule what each of the moods, `width` in number, loses by it; each adds up to 0. By the
    weights every rule loses; the uses change nothing and are not all 0.
    """
    many = len(losses)
    table = first_table(losses, width)
    solved = [many + mood for mood in range(width)]
    scale = 1
    while True:
        column = column_to_raise(table[width])
        if column is None:
            return tuple([-price for price in table[width][many:]]), None
        line = line_to_solve(table, solved, column)
        if line is None:
            return None, uses_of(table, solved, column, scale, many)
        table = solved_table(table, line, column, scale)
        scale = table[line][column]
        solved[line] = column

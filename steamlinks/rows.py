"""Rows of whole numbers: products, ranks, and numbers whose products with told rows are 0 or above 0.

Nothing is checked here. `Tableau` is the simplex method in whole numbers: each entry stands for its part of one whole,
and each step divides exactly.
"""

from steamlinks.basics import common_factor, reduced, sign


def product_of_rows(row, other):
    return sum([first * second for first, second in zip(row, other)])


def sum_of_rows(rows, multiples):
    """The row of the sums of all rows, each times its multiple; there is at least one row."""
    return [product_of_rows([row[at] for row in rows], multiples) for at in range(len(rows[0]))]


def shortened(rows):
    """The rows without those of noughts alone, each reduced."""
    return [reduced(row) for row in rows if common_factor(row) != 0]


def rank_of(rows):
    """The greatest number of rows among which none is a sum of multiples of the others."""
    left = shortened(rows)
    rank = 0
    while left:
        first = left[0]
        # The first number that is not 0 is taken out of all other rows.
        at = [number != 0 for number in first].index(True)
        left = shortened([less_multiple(row, first, at) for row in left[1:]])
        rank += 1
    return rank


def less_multiple(row, first, at):
    """A multiple of the row, less that multiple of the first one that leaves 0 at this place."""
    return tuple([number * first[at] - other * row[at] for number, other in zip(row, first)])


class Tableau:
    """The multiples of columns that make noughts together, those of the bound columns from 0 on and 1 in all.

    The free columns, whose multiples may be of any sign, are the first ones; the other multiples are from 0 on. Each
    column has one number more than the rows: 1 if it is bound, else 0. Behind the columns stand unit columns, one for
    each of their numbers, which the tableau begins with and gets rid of, and behind these the sums that are due:
    noughts, and a 1. The last line holds the prices: below 0 if taking a column leaves less of the unit columns.
    """

    def __init__(self, columns, free):
        many = len(columns[0])
        self.many = len(columns)
        self.free = free
        self.part = 1
        self.lines = []
        for at in range(many):
            units = [1 if other == at else 0 for other in range(many)]
            self.lines.append([column[at] for column in columns] + units + [units[-1]])
        prices = [-sum([line[at] for line in self.lines]) for at in range(self.many)]
        self.lines.append(prices + [0] * many + [-1])
        # The column that each line, but for the last one, tells the multiple of.
        self.taken = [self.many + at for at in range(many)]

    def entering(self):
        """The first column that is worth taking, None if there is none."""
        for column in range(self.free, self.many):
            if self.lines[-1][column] < 0:
                return column
        return None

    def leaving(self, column):
        """The line that limits a column most, of several that with the first column: so no step ever recurs."""
        best = None
        for at in range(len(self.taken)):
            is_limit = self.taken[at] >= self.free and self.lines[at][column] > 0
            if is_limit and (best is None or self.is_tighter(at, best, column)):
                best = at
        return best

    def is_tighter(self, at, best, column):
        line, other = self.lines[at], self.lines[best]
        order = sign(line[-1] * other[column] - other[-1] * line[column])
        return order < 0 or (order == 0 and self.taken[at] < self.taken[best])

    def take(self, at, column):
        pivot = self.lines[at]
        part = pivot[column]
        way = sign(part)
        for index in range(len(self.lines)):
            line = self.lines[index]
            factor = line[column]
            if index != at:
                line = [(number * part - factor * other) // self.part for number, other in zip(line, pivot)]
            self.lines[index] = [number * way for number in line]
        self.part = part * way
        self.taken[at] = column

    def settle(self):
        for column in range(self.free):
            lines = [at for at in range(len(self.taken)) if self.taken[at] >= self.free and self.lines[at][column] != 0]
            # Without a line it is a sum of multiples of the free columns before it, and not needed.
            if lines:
                self.take(lines[0], column)
        column = self.entering()
        while column is not None:
            self.take(self.leaving(column), column)
            column = self.entering()

    def is_met(self):
        """Whether nothing of the unit columns is left."""
        return self.lines[-1][-1] == 0

    def multiples(self):
        """The multiples of the columns, all times the part."""
        found = [0] * self.many
        for at in range(len(self.taken)):
            if self.taken[at] < self.many:
                found[self.taken[at]] = self.lines[at][-1]
        return found

    def against(self):
        """If it is not met, numbers whose products are 0 with the free columns and from 0 on with the others.

        With the bound columns they are above 0. (They are the opposites of the prices that the lines have.)
        """
        prices = self.lines[-1][self.many:-2]
        return [price - self.part for price in prices]


def settled(evens, stricts, weaks):
    columns = [row + (0,) for row in evens] + [row + (1,) for row in stricts] + [row + (0,) for row in weaks]
    tableau = Tableau(columns, len(evens))
    tableau.settle()
    return tableau


def numbers_within(evens, stricts, weaks):
    """Numbers whose products are 0 with the even rows, above 0 with the strict ones, from 0 on with the weak ones.

    None if there are none. There is at least one strict row.
    """
    tableau = settled(evens, stricts, weaks)
    if tableau.is_met():
        return None
    return reduced(tableau.against())


def multiples_to_nought(evens, stricts):
    """The multiples of the even rows, and those of the strict rows from 0 on and not all 0, with noughts as the sum.

    None if there are none. There is at least one strict row.
    """
    tableau = settled(evens, stricts, [])
    if not tableau.is_met():
        return None
    numbers = reduced(tableau.multiples())
    return (numbers[:len(evens)], numbers[len(evens):])

"""Cells of the number line with just one real root of a polynomial in each. Nothing is checked here.

The cell of a place and bits holds the numbers above place and at most place + 1, both divided by 2 to the power of the
bits, which may be below 0.
"""

from steamlinks.algebra import changes_on_grid, derivative, value_on_grid


def reach_bits(polynomial):
    """The roots are greater than minus 2 to the power of so many bits, and smaller than the opposite."""
    most = max([abs(number) for number in polynomial])
    return most.bit_length() - abs(polynomial[-1]).bit_length() + 2


def guessed_place(polynomial, place, bits, pace):
    """The place, on a grid with so many more bits, of the cell where roots that are near to one another would be.

    Newton's step for a root of any multiplicity, from the middle of the cell: x - p p' / (p' p' - p p'').
    """
    slope = derivative(polynomial)
    values = [value_on_grid(row, 2 * place + 1, bits + 1) for row in (polynomial, slope, derivative(slope))]
    step, parts = values[0] * values[1], values[1] * values[1] - values[0] * values[2]
    if bits + 1 < 0:
        parts <<= -bits - 1
    if parts == 0:
        return place << pace
    found = (((2 * place + 1) * parts - step) << (pace - 1)) // parts
    return min(max(found, place << pace), ((place + 1) << pace) - 1)


def nearer_cell(row, cell, pace):
    """A cell with all roots of the told one, finer by so many bits, None if it is not where it is guessed."""
    place, bits, before, behind = cell
    guess = guessed_place(row[0], place, bits, pace)
    low, high = changes_on_grid(row, guess, bits + pace), changes_on_grid(row, guess + 1, bits + pace)
    # With all roots on one side they may still be in the cell beside it.
    if low == behind:
        guess, low, high = guess - 1, changes_on_grid(row, guess - 1, bits + pace), low
    elif high == before:
        guess, low, high = guess + 1, high, changes_on_grid(row, guess + 2, bits + pace)
    if low != before or high != behind:
        return None
    return (guess, bits + pace, low, high)


def halves_of(row, cell):
    """The upper and the lower half of a cell."""
    place, bits, before, behind = cell
    middle = changes_on_grid(row, 2 * place + 1, bits + 1)
    return [(2 * place + 1, bits + 1, middle, behind), (2 * place, bits + 1, before, middle)]


def single_cells(row):
    """The places and bits of cells with one root each, ascending: all real roots of the polynomial of a Sturm's row."""
    bits = -reach_bits(row[0])
    changes = [changes_on_grid(row, place, bits) for place in (-1, 0, 1)]
    # Each cell with its sign changes at both ends and how many bits the next step tries to win; the lowest one last.
    waiting = [((0, bits, changes[1], changes[2]), 1), ((-1, bits, changes[0], changes[1]), 1)]
    found = []
    while waiting:
        cell, pace = waiting.pop()
        many = cell[2] - cell[3]
        nearer = nearer_cell(row, cell, pace) if many > 1 and pace > 2 else None
        if many == 1:
            found.append(cell[:2])
        elif nearer is not None:
            waiting.append((nearer, 2 * pace))
        elif many > 1 and pace > 4:
            waiting.append((cell, pace // 2))
        elif many > 1:
            for half in halves_of(row, cell):
                waiting.append((half, 2 * pace if half[2] - half[3] == many and pace < 4 else 1))
    return found

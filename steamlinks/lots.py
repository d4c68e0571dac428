"""Lots as stretches between numbers, and the lots of conditions on the signs of polynomials. Nothing is checked here.

A stretch is here (LOW, HAS_LOW, HIGH, HAS_HIGH) with numbers of `steamlinks.roots` in the place of points.
"""

from steamlinks.algebra import told_reduced
from steamlinks.roots import Root, number_order, numbers_at_nought, sign_at_number, some_ratio_between

LEAST = (-1, 1)
MOST = (1, 1)


def insert_number(numbers, number):
    """Puts a number in its place in an ascending list, unless it is there."""
    low, high = 0, len(numbers)
    while low < high:
        middle = (low + high) // 2
        order = number_order(numbers[middle], number)
        if order == 0:
            return
        if order < 0:
            low = middle + 1
        else:
            high = middle
    numbers.insert(low, number)


def marks_from(numbers):
    """-1, those of the numbers strictly between, and 1, ascending, each once."""
    marks = [LEAST, MOST]
    for number in numbers:
        if number_order(number, LEAST) > 0 and number_order(number, MOST) < 0:
            insert_number(marks, number)
    return marks


def marks_of_polynomials(polynomials):
    seen = set()
    numbers = []
    for polynomial in polynomials:
        if polynomial and told_reduced(polynomial) not in seen:
            seen.add(told_reduced(polynomial))
            numbers.extend(numbers_at_nought(polynomial))
    return marks_from(numbers)


def samples_of(marks):
    """The marks, and between each two neighbours a ratio there."""
    samples = [marks[0]]
    for index in range(1, len(marks)):
        samples.append(some_ratio_between(marks[index - 1], marks[index]))
        samples.append(marks[index])
    return samples


def stretches_from(marks, truths):
    """The stretches that hold where the truths are True: one for each of the samples of the marks."""
    stretches = []
    begin = None
    for index in range(len(truths)):
        if truths[index] and (index == 0 or not truths[index - 1]):
            begin = index
        if truths[index] and (index == len(truths) - 1 or not truths[index + 1]):
            # A stretch that begins or ends with an open part has the mark beside it as its end.
            stretches.append((marks[begin // 2], begin % 2 == 0, marks[(index + 1) // 2], index % 2 == 0))
    return stretches


def stretches_where(polynomials, is_so):
    """Where a condition on the list of the signs of all polynomials is met."""
    marks = marks_of_polynomials(polynomials)
    truths = []
    for sample in samples_of(marks):
        truths.append(is_so([sign_at_number(polynomial, sample) for polynomial in polynomials]))
    return stretches_from(marks, truths)


def is_in_stretch(stretch, number):
    low, has_low, high, has_high = stretch
    order = number_order(low, number)
    if order > 0 or (order == 0 and not has_low):
        return False
    order = number_order(number, high)
    return order < 0 or (order == 0 and has_high)


def is_in_some(stretches, number):
    return any([is_in_stretch(stretch, number) for stretch in stretches])


def are_right_ends(stretch):
    """Whether low is below high, or both are one number that belongs to the stretch, all from -1 to 1."""
    low, has_low, high, has_high = stretch
    if number_order(low, LEAST) < 0 or number_order(high, MOST) > 0:
        return False
    order = number_order(low, high)
    return order < 0 or (order == 0 and has_low and has_high)


def are_apart(stretch, following):
    """Whether some number is left out between the first one and the one behind it."""
    order = number_order(stretch[2], following[0])
    return order < 0 or (order == 0 and not stretch[3] and not following[1])


def joined(stretches, others, is_so):
    """Where a condition on being in the first ones and being in the other ones is met."""
    marks = marks_from([stretch[index] for stretch in stretches + others for index in (0, 2)])
    truths = []
    for sample in samples_of(marks):
        truths.append(is_so(is_in_some(stretches, sample), is_in_some(others, sample)))
    return stretches_from(marks, truths)


def are_same_stretches(stretches, others):
    if len(stretches) != len(others):
        return False
    for stretch, other in zip(stretches, others):
        if stretch[1] != other[1] or stretch[3] != other[3]:
            return False
        if number_order(stretch[0], other[0]) != 0 or number_order(stretch[2], other[2]) != 0:
            return False
    return True


def ratio_in(stretches):
    """A ratio in one of the stretches, None if there is none: a single root that is no ratio holds none."""
    for low, _, high, _ in stretches:
        if number_order(low, high) < 0:
            return some_ratio_between(low, high)
        if not isinstance(low, Root):
            return low
    return None

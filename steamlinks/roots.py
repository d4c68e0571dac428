"""Real numbers, ratios and roots that are none: found, compared, brought closer. Nothing is checked here.

A number is a ratio (a pair, perhaps not reduced) or a `Root`.
"""

from steamlinks.algebra import derivative, divisor_of, lifted_value, plain_row, quotient_of, sign_at_ratio
from steamlinks.algebra import value_on_grid
from steamlinks.basics import reduced, sign
from steamlinks.cells import single_cells


def ratio_on_grid(place, bits):
    """The place divided by 2 to the power of the bits, which may be below 0."""
    if bits < 0:
        return (place << -bits, 1)
    return (place, 1 << bits)


def floor_on_grid(place, bits):
    if bits < 0:
        return place << -bits
    return place >> bits


class Root:
    """The only real root of a plain polynomial above place and at most at place + 1 on the grid of its bits."""

    def __init__(self, polynomial, place, bits, pace):
        self.polynomial = polynomial
        self.place = place
        self.bits = bits
        # How many bits the next step tries to win.
        self.pace = pace
        # The sign at the upper end, 0 if the root is there.
        self.top = sign(value_on_grid(polynomial, place + 1, bits))
        # Which one of the real roots it is, once this is known.
        self.index = None

    def low(self):
        return ratio_on_grid(self.place, self.bits)

    def high(self):
        return ratio_on_grid(self.place + 1, self.bits)

    def is_reached(self, ratio):
        """Whether a ratio above the lower end, at most at the upper one, is the root or above it."""
        found = sign_at_ratio(self.polynomial, ratio)
        return found == 0 or found == self.top

    def is_reached_on_grid(self, place, bits):
        """As `is_reached`, for a place on a grid."""
        found = sign(value_on_grid(self.polynomial, place, bits))
        return found == 0 or found == self.top

    def near_step(self):
        """The inner one of the next, finer steps at which the polynomial would be 0 if it ran straight."""
        steps = 1 << self.pace
        low = abs(value_on_grid(self.polynomial, self.place, self.bits))
        high = abs(value_on_grid(self.polynomial, self.place + 1, self.bits))
        guess = (2 * steps * low // max(low + high, 1) + 1) // 2
        return min(max(guess, 1), steps - 1)

    def closer(self):
        """Narrows the bracket to one of its next steps if the guess is good; otherwise the pace gets slower."""
        bits = self.bits + self.pace
        first = self.place << self.pace
        begin = first + self.near_step()
        if self.is_reached_on_grid(begin, bits):
            begin -= 1
            is_sure = begin == first or not self.is_reached_on_grid(begin, bits)
        else:
            is_sure = self.is_reached_on_grid(begin + 1, bits)
        if is_sure:
            self.place, self.bits = begin, bits
            self.top = sign(value_on_grid(self.polynomial, begin + 1, bits))
            self.pace *= 2
        else:
            # Never below 1: with two steps there is one inner one, which is always sure.
            self.pace //= 2


def separated_roots(row):
    """All real roots of the plain polynomial of a Sturm's row, ascending."""
    return [Root(row[0], place, bits, 1) for place, bits in single_cells(row)]


def root_as_ratio(root):
    """The ratio that a root is, None if it is none."""
    # It is a whole number of parts, as the last number of a ratio divides the lead.
    parts = root.polynomial[-1]
    first, last = floor_on_grid(parts * root.place, root.bits), floor_on_grid(parts * (root.place + 1), root.bits)
    # A root at the upper end is the last one of them.
    while root.top != 0 and last - first > 1:
        root.closer()
        first = floor_on_grid(parts * root.place, root.bits)
        last = floor_on_grid(parts * (root.place + 1), root.bits)
    if last > first and sign_at_ratio(root.polynomial, (last, parts)) == 0:
        return reduced((last, parts))
    return None


def numbers_at_nought(polynomial):
    """All real roots of a polynomial other than (), ascending, each once: those that are ratios as ratios."""
    return numbers_of_row(plain_row(polynomial))


def numbers_of_row(row):
    """All real roots of the plain polynomial of a Sturm's row, ascending, those that are ratios as ratios."""
    numbers = []
    rest = row[0]
    for root in separated_roots(row):
        ratio = root_as_ratio(root)
        if ratio is None:
            numbers.append(root)
        else:
            numbers.append(ratio)
            rest = quotient_of(rest, (-ratio[0], ratio[1]))
    return without_ratios(numbers, rest)


def without_ratios(numbers, rest):
    """The same numbers, each root told as one of the rest, the polynomial that has no ratios as roots."""
    told = []
    many = 0
    for number in numbers:
        if isinstance(number, Root):
            root = Root(rest, number.place, number.bits, number.pace)
            root.index = many
            many += 1
            told.append(root)
        else:
            told.append(number)
    return told


def low_of(number):
    if isinstance(number, Root):
        return number.low()
    return number


def high_of(number):
    if isinstance(number, Root):
        return number.high()
    return number


def bring_closer(number, other):
    """Narrows the bracket of that one of two numbers, not both ratios, that is the wider one."""
    # Narrowing both would make the finer one finer and finer while the other one still lags behind.
    if not isinstance(other, Root) or (isinstance(number, Root) and number.bits <= other.bits):
        number.closer()
    else:
        other.closer()


def ratio_order(ratio, other):
    """The sign of the first ratio less the other one."""
    return sign(ratio[0] * other[1] - other[0] * ratio[1])


def order_to_ratio(root, ratio):
    """The sign of a root that is no ratio less a ratio."""
    if ratio_order(ratio, root.low()) <= 0:
        return 1
    if ratio_order(ratio, root.high()) >= 0 or root.is_reached(ratio):
        return -1
    return 1


def are_one_root(root, other):
    """Whether two roots that are no ratios are one number."""
    low, high = root.low(), root.high()
    if ratio_order(low, other.low()) < 0:
        low = other.low()
    if ratio_order(high, other.high()) > 0:
        high = other.high()
    if ratio_order(low, high) >= 0:
        return False
    # The common divisor has no other root than this number where both brackets are.
    divisor = divisor_of(root.polynomial, other.polynomial)
    return sign_at_ratio(divisor, low) != sign_at_ratio(divisor, high)


def number_order(number, other):
    """The sign of the first number less the other one."""
    if not isinstance(number, Root):
        if not isinstance(other, Root):
            return ratio_order(number, other)
        return -order_to_ratio(other, number)
    if not isinstance(other, Root):
        return order_to_ratio(number, other)
    if are_one_root(number, other):
        return 0
    while ratio_order(number.low(), other.high()) < 0 and ratio_order(other.low(), number.high()) < 0:
        bring_closer(number, other)
    return ratio_order(number.low(), other.low())


def some_ratio_between(low, high):
    """A ratio above a number and below a greater one."""
    begin, end = high_of(low), low_of(high)
    while ratio_order(begin, end) >= 0:
        bring_closer(low, high)
        begin, end = high_of(low), low_of(high)
    # On a grid with steps less than their difference, the first step above the lower one is below the upper one.
    gap, parts = end[0] * begin[1] - begin[0] * end[1], begin[1] * end[1]
    bits = max(parts.bit_length() - gap.bit_length() + 1, 0)
    return reduced(((begin[0] << bits) // begin[1] + 1, 1 << bits))


def certain_sign(polynomial, root):
    """The sign of a polynomial all along the bracket of a root; 0 if its steepness leaves this open."""
    low, high = root.low(), root.high()
    steep = tuple([abs(number) for number in derivative(polynomial)])
    most = lifted_value(steep, (max(abs(low[0]), abs(high[0])), high[1]))
    value = lifted_value(polynomial, high)
    if abs(value) > (high[0] - low[0]) * most:
        return sign(value)
    return 0


def is_root_of(root, polynomial):
    """Whether a polynomial other than () is 0 at a root that is no ratio."""
    divisor = divisor_of(polynomial, root.polynomial)
    return sign_at_ratio(divisor, root.low()) != sign_at_ratio(divisor, root.high())


def sign_at_number(polynomial, number):
    if not isinstance(number, Root):
        return sign_at_ratio(polynomial, number)
    if not polynomial:
        return 0
    found = certain_sign(polynomial, number)
    if found == 0 and is_root_of(number, polynomial):
        return 0
    while found == 0:
        number.closer()
        found = certain_sign(polynomial, number)
    return found

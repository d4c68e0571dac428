"""Whole numbers, valves and engines as texts, and read back from them. Nothing is checked here."""

from steamlinks.engines import is_engine
from steamlinks.valves import is_valve

FIGURES = "0123456789"
# Python turns neither long numbers into texts nor long texts into numbers: both go by pieces of so many figures.
PIECE = 64
PIECE_ABOVE = 10 ** 64


def number_text(number):
    if number < 0:
        return "-" + number_text(-number)
    pieces = []
    rest = number
    while rest >= PIECE_ABOVE:
        rest, piece = divmod(rest, PIECE_ABOVE)
        pieces.append(str(piece).zfill(PIECE))
    pieces.append(str(rest))
    return "".join(pieces[::-1])


def numbers_text(numbers):
    return " ".join([number_text(number) for number in numbers])


def number_in(text):
    """The whole number that a text tells as Python writes it, None if it tells none."""
    figures = text[1:] if text.startswith("-") else text
    if not figures or not all([figure in FIGURES for figure in figures]):
        return None
    if figures.startswith("0") and text != "0":
        return None
    first = len(figures) % PIECE
    number = int("0" + figures[:first])
    for begin in range(first, len(figures), PIECE):
        number = number * PIECE_ABOVE + int(figures[begin:begin + PIECE])
    if figures == text:
        return number
    return -number


def numbers_in(text):
    """The tuple of the whole numbers of a text with one blank between them, None if it is no such text."""
    numbers = tuple([number_in(word) for word in text.split(" ")])
    if None in numbers:
        return None
    return numbers


def valve_numbers(valve):
    """The seven numbers of a valve behind its form."""
    return valve[1] + valve[2] + (valve[3],)


def valve_from(form, numbers):
    return (form, numbers[:2], numbers[2:6], numbers[6])


def thing_text(thing):
    """The text of a valve or an engine."""
    if is_valve(thing):
        return numbers_text((thing[0],) + valve_numbers(thing))
    parts = [number_text(thing[0])]
    for turn, weight, valve in thing[1]:
        parts.append(numbers_text(turn + (weight,) + valve_numbers(valve)))
    return "; ".join(parts)


def valve_in(text):
    """The valve of a text, None if it tells none."""
    numbers = numbers_in(text)
    if numbers is None or len(numbers) != 8:
        return None
    valve = valve_from(numbers[0], numbers[1:])
    return valve if is_valve(valve) else None


def engine_in(text):
    """The engine of a text, None if it tells none."""
    parts = text.split("; ")
    form = number_in(parts[0])
    cylinders = []
    for part in parts[1:]:
        numbers = numbers_in(part)
        if numbers is None or len(numbers) != 10:
            return None
        cylinders.append((numbers[:2], numbers[2], valve_from(form, numbers[3:])))
    engine = (form, tuple(cylinders))
    return engine if is_engine(engine) else None

"""Links read back from sightings of their events: which links fit, and what follows."""

from steamlinks.angles import check_form, is_turn
from steamlinks.basics import reduced, turn_factor, turned_vector
from steamlinks.errors import InvalidSightings, NoFit
from steamlinks.links import check_link, is_notch
from steamlinks.rows import multiples_to_nought, numbers_within, product_of_rows, rank_of
from steamlinks.valves import ENDS, EVENTS, is_one_of, is_steam_event

MOST_SIGHTINGS = 8
MANY_NUMBERS = 10


def is_sighting(value):
    if not isinstance(value, tuple) or len(value) != 4:
        return False
    notch, end, event, turn = value
    return is_notch(notch) and is_one_of(end, ENDS) and is_one_of(event, EVENTS) and is_turn(turn)


def check_sightings(sightings):
    if not isinstance(sightings, tuple):
        raise InvalidSightings(None)
    if len(sightings) == 0:
        raise InvalidSightings(0)
    for index in range(len(sightings)):
        if index == MOST_SIGHTINGS or not is_sighting(sightings[index]):
            raise InvalidSightings(index)


def check_sighting(sighting):
    if not is_sighting(sighting):
        raise InvalidSightings(None)


def vector_numbers(notch, vector):
    """The multiples of P0, P1, Q0, Q1, S0, S1 in the sum of V's numbers, each times its own of the vector."""
    n, m = notch
    return tuple([factor * number for factor in (m * m, n * m, n * n) for number in vector])


def lap_numbers(end, event, amount):
    """The amount at the lap of the event, with the opposite sign where the level is the opposite of the lap."""
    is_steam = is_steam_event(event)
    if end == "head":
        return (amount, 0, 0, 0) if is_steam else (0, -amount, 0, 0)
    return (0, 0, -amount, 0) if is_steam else (0, 0, 0, amount)


def does_rise(end, event):
    if end == "head":
        return event in ("admission", "compression")
    return event in ("cutoff", "release")


def even_row(form, sighting):
    notch, end, event, turn = sighting
    first, second = turned_vector(form, (1, 0), turn)
    level = -notch[1] * notch[1] * turn_factor(form, turn)
    return reduced(vector_numbers(notch, (first, form * second)) + lap_numbers(end, event, level))


def strict_row(form, sighting):
    notch, end, event, turn = sighting
    first, second = turned_vector(form, (1, 0), turn)
    across = (-second, first) if does_rise(end, event) else (second, -first)
    return reduced(vector_numbers(notch, across) + (0, 0, 0, 0))


def even_rows(form, sightings):
    return [even_row(form, sighting) for sighting in sightings]


def strict_rows(form, sightings):
    return [strict_row(form, sighting) for sighting in sightings]


def link_of(form, numbers):
    return (form, numbers[:2], numbers[2:4], numbers[4:6], numbers[6:], 1)


def does_fit(link, sighting):
    form, first, second, third, laps, _ = link
    numbers = first + second + third + laps
    if product_of_rows(even_row(form, sighting), numbers) != 0:
        return False
    return product_of_rows(strict_row(form, sighting), numbers) > 0


def fits_all(link, sightings):
    return all([does_fit(link, sighting) for sighting in sightings])


def some_fitting_link(form, sightings):
    numbers = numbers_within(even_rows(form, sightings), strict_rows(form, sightings), [])
    if numbers is None:
        return None
    return link_of(form, numbers)


def some_parting_link(form, sightings, sighting):
    """A link that fits the sightings and not the sighting, None if there is none."""
    evens, stricts = even_rows(form, sightings), strict_rows(form, sightings)
    even, strict = even_row(form, sighting), strict_row(form, sighting)
    opposite_even = tuple([-number for number in even])
    opposite_strict = tuple([-number for number in strict])
    # It misses if its even sum is above 0, or below 0, or if its strict sum is not above 0.
    for more, weaks in (([even], []), ([opposite_even], []), ([], [opposite_strict])):
        numbers = numbers_within(evens, stricts + more, weaks)
        if numbers is not None:
            return link_of(form, numbers)
    return None


def check_told(form, sightings, sighting):
    check_form(form)
    check_sightings(sightings)
    check_sighting(sighting)
    if some_fitting_link(form, sightings) is None:
        raise NoFit()


def sighting_rows(form, sighting):
    check_form(form)
    check_sighting(sighting)
    return (even_row(form, sighting), strict_row(form, sighting))


def fits(link, sightings):
    check_link(link)
    check_sightings(sightings)
    return fits_all(link, sightings)


def fitting_link(form, sightings):
    check_form(form)
    check_sightings(sightings)
    return some_fitting_link(form, sightings)


def bar(form, sightings):
    check_form(form)
    check_sightings(sightings)
    return multiples_to_nought(even_rows(form, sightings), strict_rows(form, sightings))


def freedom(form, sightings):
    check_form(form)
    check_sightings(sightings)
    return MANY_NUMBERS - rank_of(even_rows(form, sightings))


def follows(form, sightings, sighting):
    check_told(form, sightings, sighting)
    return some_parting_link(form, sightings, sighting) is None


def parting_link(form, sightings, sighting):
    check_told(form, sightings, sighting)
    return some_parting_link(form, sightings, sighting)

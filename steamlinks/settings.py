"""Settings of valves and links: moved on the spindle, thrown, opposite, crossed, turned; shifts that even them out."""

from steamlinks.angles import check_turn
from steamlinks.basics import is_ratio, opposite_vector, reduced, scaled_vector, turn_factor, turned_vector
from steamlinks.errors import InvalidRatio
from steamlinks.links import check_link
from steamlinks.polynomials import check_ratio
from steamlinks.valves import check_valve, valve_made


def is_throw(value):
    return is_ratio(value) and value[0] > 0


def check_throw(ratio):
    if not is_throw(ratio):
        raise InvalidRatio(ratio)


def link_made(form, vectors, laps, port):
    """The link of three vectors, four laps and a port, reduced."""
    first, second, third = vectors
    numbers = reduced(first + second + third + laps + (port,))
    return (form, numbers[:2], numbers[2:4], numbers[4:6], numbers[6:10], numbers[10])


def scaled_laps(laps, factor):
    return tuple([lap * factor for lap in laps])


def shifted_laps(laps, ratio):
    """The laps of a valve that stands at x + d in the place of x, all times the lower number of the ratio d."""
    n, m = ratio
    sh, xh, sc, xc = laps
    return (sh * m - n, xh * m + n, sc * m + n, xc * m - n)


def moved_valve(valve, ratio):
    form, vector, laps, port = valve
    return valve_made(form, scaled_vector(vector, ratio[1]), shifted_laps(laps, ratio), port * ratio[1])


def thrown_valve(valve, ratio):
    form, vector, laps, port = valve
    n, m = ratio
    return valve_made(form, scaled_vector(vector, n), scaled_laps(laps, m), port * m)


def opposed_valve(valve):
    form, vector, laps, port = valve
    return (form, opposite_vector(vector), laps, port)


def shift_of_leads(valve):
    laps = valve[2]
    return reduced((laps[0] - laps[2], 2))


def moved(valve, ratio):
    check_valve(valve)
    check_ratio(ratio)
    return moved_valve(valve, ratio)


def thrown(valve, ratio):
    check_valve(valve)
    check_throw(ratio)
    return thrown_valve(valve, ratio)


def opposite(valve):
    check_valve(valve)
    return opposed_valve(valve)


def even_shift(valve):
    check_valve(valve)
    return shift_of_leads(valve)


def even_release_shift(valve):
    check_valve(valve)
    laps = valve[2]
    return reduced((laps[3] - laps[1], 2))


def evened(valve):
    check_valve(valve)
    return moved_valve(valve, shift_of_leads(valve))


def crossed(link):
    check_link(link)
    form, first, second, third, laps, port = link
    return (form, first, opposite_vector(second), third, laps, port)


def moved_link(link, ratio):
    check_link(link)
    check_ratio(ratio)
    form, laps, port = link[0], link[4], link[5]
    vectors = [scaled_vector(vector, ratio[1]) for vector in link[1:4]]
    return link_made(form, vectors, shifted_laps(laps, ratio), port * ratio[1])


def turned_link(link, turn):
    check_link(link)
    check_turn(turn)
    form, laps, port = link[0], link[4], link[5]
    factor = turn_factor(form, turn)
    vectors = [turned_vector(form, vector, turn) for vector in link[1:4]]
    return link_made(form, vectors, scaled_laps(laps, factor), port * factor)


def thrown_link(link, ratio):
    check_link(link)
    check_throw(ratio)
    form, laps, port = link[0], link[4], link[5]
    n, m = ratio
    vectors = [scaled_vector(vector, n) for vector in link[1:4]]
    return link_made(form, vectors, scaled_laps(laps, m), port * m)

"""How wide the ports stand open to steam."""

from steamlinks.angles import check_angle, check_like
from steamlinks.basics import is_ratio, norm, opposite_vector, reduced, scaled_vector, sign
from steamlinks.circle import place_sign
from steamlinks.errors import InvalidRatio
from steamlinks.trees import other_tree
from steamlinks.valves import check_end, check_valve, steam_side


def check_part(ratio):
    if not is_ratio(ratio) or not 0 <= ratio[0] <= ratio[1]:
        raise InvalidRatio(ratio)


def wide_side(valve, end, ratio):
    """The vector and the level of the side of the places at which x - lap is above that part of PORT."""
    vector, lap = steam_side(valve, end)
    part, whole = ratio
    return (scaled_vector(vector, whole), lap * whole + part * valve[3])


def limited(found, ratio):
    """The sign of a share less a ratio, found as if a share could be below 0 or above 1."""
    if ratio[0] == 0:
        return max(found, 0)
    if ratio[0] == ratio[1]:
        return min(found, 0)
    return found


def compare_opening(valve, end, angle, ratio):
    check_valve(valve)
    check_end(end)
    check_angle(angle)
    check_part(ratio)
    check_like(valve, angle)
    vector, level = wide_side(valve, end, ratio)
    return limited(place_sign(angle, vector, level), ratio)


def compare_greatest(valve, end, ratio):
    check_valve(valve)
    check_end(end)
    check_part(ratio)
    vector, level = wide_side(valve, end, ratio)
    if level < 0:
        return limited(1, ratio)
    return limited(sign(norm(valve[0], vector) - level * level), ratio)


def wide_region(valve, end, ratio):
    check_valve(valve)
    check_end(end)
    check_part(ratio)
    if ratio[0] == 0:
        return (valve[0], ("all",))
    vector, level = wide_side(valve, end, ratio)
    return (valve[0], other_tree(("side", opposite_vector(vector), -level)))


def greatest_way(valve, end):
    check_valve(valve)
    check_end(end)
    vector = steam_side(valve, end)[0]
    if vector == (0, 0):
        return None
    return reduced(vector)

"""Where the piston stands in its stroke, with an endless rod and with rods of told lengths."""

from steamlinks.angles import check_angle, check_form, check_like
from steamlinks.basics import is_ratio, reduced
from steamlinks.circle import along_order, place_sign
from steamlinks.errors import InvalidRod, InvalidShare, InvalidStroke
from steamlinks.places import opposite_angle
from steamlinks.valves import check_end, check_event, check_valve, is_one_of, some_event_angle

STROKES = ("out", "back")


def is_long_rod(value):
    """Whether the value is a rod that is not endless."""
    return is_ratio(value) and value[0] > value[1]


def check_rod(rod):
    if rod is not None and not is_long_rod(rod):
        raise InvalidRod(rod)


def check_long_rod(rod):
    if not is_long_rod(rod):
        raise InvalidRod(rod)


def check_share(share):
    if not is_ratio(share) or not 0 < share[0] < share[1]:
        raise InvalidShare(share)


def check_stroke(stroke):
    if not is_one_of(stroke, STROKES):
        raise InvalidStroke(stroke)


def share_cosine(rod, share):
    """The cosine of the crank's angle at which the piston stands at the share, a ratio."""
    part, whole = share
    if rod is None:
        return reduced((whole - 2 * part, whole))
    length, crank = rod
    # X of the document is reach / (crank * whole).
    reach = (length + crank) * whole - 2 * part * crank
    square = crank * crank - length * length
    return reduced((reach * reach + square * whole * whole, 2 * reach * crank * whole))


def share_sign(rod, angle, share):
    """The sign of the piston's share at the place less the told one."""
    cosine = share_cosine(rod, share)
    # The share grows as the cosine falls.
    return -place_sign(angle, (cosine[1], 0), cosine[0])


def share_order(angle, other):
    """With an endless rod, the sign of the share at the first place less that at the other one."""
    return along_order(other, angle, (1, 0))


def angle_of_share(form, rod, share, stroke):
    """The angle at which the piston stands at the share on the stroke."""
    p, q = share_cosine(rod, share)
    if stroke == "out":
        return (form, -q, 0, -p)
    return (form, q, 0, p)


def share_angle(form, rod, share, stroke):
    check_form(form)
    check_rod(rod)
    check_share(share)
    check_stroke(stroke)
    return angle_of_share(form, rod, share, stroke)


def compare_share(rod, angle, share):
    check_rod(rod)
    check_angle(angle)
    check_share(share)
    return share_sign(rod, angle, share)


def compare_for_rods(rod, angle, share):
    check_long_rod(rod)
    check_angle(angle)
    check_share(share)
    # The longer the rod, the lower the cosine at the share; it comes near to that of the endless rod,
    # but never to it. So the told rod and the endless one settle all between them.
    if share_sign(rod, angle, share) < 0:
        return -1
    if share_sign(None, angle, share) >= 0:
        return 1
    return None


def compare_event(valve, rod, end, event, share):
    check_valve(valve)
    check_rod(rod)
    check_end(end)
    check_event(event)
    check_share(share)
    angle = some_event_angle(valve, end, event)
    if angle is None:
        return None
    return share_sign(rod, angle, share)


def compare_pistons(angle, other):
    check_angle(angle)
    check_angle(other)
    check_like(angle, other)
    return share_order(angle, other)


def compare_cutoffs(valve):
    check_valve(valve)
    head = some_event_angle(valve, "head", "cutoff")
    crank = some_event_angle(valve, "crank", "cutoff")
    if head is None or crank is None:
        return None
    # Half a turn on, the share is what is left of the stroke.
    return share_order(head, opposite_angle(crank))

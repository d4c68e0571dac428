"""Claims with papers that the checker accepts."""

from steamlinks.alike import angle_of_unlike, parting_notch, unlike_angle
from steamlinks.engines import check_sense, dead_angle, weak_angle
from steamlinks.errors import NoAngle
from steamlinks.fits import bar, fits, fitting_link, parting_link
from steamlinks.knots import ratio_between
from steamlinks.looks import any_fewest_looks, check_wrong, seen_on, valve_with
from steamlinks.notches import lot_rest, state_notches
from steamlinks.pistons import compare_event
from steamlinks.polynomials import count_roots
from steamlinks.ports import compare_greatest
from steamlinks.regions import angle_outside, check_two_regions, holds, some_angle
from steamlinks.riders import plate_kinds
from steamlinks.valves import ENDS, check_valve, state_at, state_region
from steamlinks.zones import check_bounds, check_geared, engine_at, is_within_zone


def bare(word, told):
    """The claim with the paper of those that have none."""
    return ((word,) + told, ())


def shown_or_not(told, paper, word, other_word):
    """The first claim with its paper; the other one, which has none, if the paper is None."""
    if paper is None:
        return bare(other_word, told)
    return ((word,) + told, paper)


def certify_place(region, angle):
    return bare("holds" if holds(region, angle) else "fails", (region, angle))


def certify_region(region):
    return shown_or_not((region,), some_angle(region), "sometimes", "never")


def certify_within(region, other):
    check_two_regions(region, other)
    return shown_or_not((region, other), angle_outside(region, other), "not within", "within")


def certify_state(valve, end, angle):
    return bare("state", (valve, end, angle, state_at(valve, end, angle)))


def certify_blow(valve, end):
    angle = some_angle(state_region(valve, end, "both"))
    return shown_or_not((valve, end), angle, "blows", "tight")


def certify_share(valve, rod, end, event, share):
    sign = compare_event(valve, rod, end, event, share)
    if sign is None:
        raise NoAngle()
    return bare("share", (valve, rod, end, event, share, sign))


def certify_greatest(valve, end, ratio):
    return bare("opens", (valve, end, ratio, compare_greatest(valve, end, ratio)))


def certify_alike(valve, other):
    return shown_or_not((valve, other), unlike_angle(valve, other), "unlike", "alike")


def certify_links(link, other):
    return shown_or_not((link, other), parting_notch(link, other), "unlike links", "alike links")


def certify_roots(polynomial):
    count = count_roots(polynomial, None, None)
    return bare("roots", (polynomial, count))


def certify_notches(link, angle, end, state):
    return bare("notches", (link, angle, end, state, state_notches(link, angle, end, state)))


def point_in(lot):
    """A point in a lot, None if there is none: it may be a single number that is no ratio."""
    if not lot:
        return None
    low, has_low, high, _ = lot[0]
    return low if has_low else ratio_between(low, high)


def certify_always(link, angle, end, state):
    point = point_in(lot_rest(state_notches(link, angle, end, state)))
    return shown_or_not((link, angle, end, state), point, "not always", "always")


def certify_kinds(valve, rider, end):
    return bare("kinds", (valve, rider, end, plate_kinds(valve, rider, end)))


def certify_start(engine, sense):
    return shown_or_not((engine, sense), dead_angle(engine, sense), "hangs", "starts")


def certify_pull(engine, sense, ratio):
    return shown_or_not((engine, sense, ratio), weak_angle(engine, sense, ratio), "not above", "above")


def certify_zone(geared, sense, low, high):
    check_geared(geared)
    check_sense(sense)
    check_bounds(low, high)
    return bare("zone" if is_within_zone(geared, sense, low, high) else "no zone", (geared, sense, low, high))


def certify_run(geared, sense, notch):
    check_geared(geared)
    check_sense(sense)
    angle = dead_angle(engine_at(geared, notch), sense)
    return shown_or_not((geared, sense, notch), angle, "stalls", "runs")


def certify_fit(link, sightings):
    return bare("fits" if fits(link, sightings) else "misses", (link, sightings))


def certify_fitting(form, sightings):
    link = fitting_link(form, sightings)
    if link is None:
        return (("barred", form, sightings), bar(form, sightings))
    return (("fitting", form, sightings), link)


def certify_following(form, sightings, sighting):
    link = parting_link(form, sightings, sighting)
    return shown_or_not((form, sightings, sighting), link, "free", "follows")


def look_parting(valve, other):
    """A look that parts two valves, None if they are alike."""
    angle = angle_of_unlike(valve, other)
    if angle is None:
        return None
    looks = [(angle, end) for end in ENDS]
    return looks[[seen_on(valve, look) != seen_on(other, look) for look in looks].index(True)]


def certify_blind(valve, wrong, other):
    check_valve(valve)
    check_wrong(wrong)
    check_wrong(other)
    look = look_parting(valve_with(valve, wrong), valve_with(valve, other))
    return shown_or_not((valve, wrong, other), look, "parted", "blind")


def certify_looks(valve, wrongs):
    looks = any_fewest_looks(valve, wrongs)
    return (("looks", valve, wrongs, len(looks)), looks)

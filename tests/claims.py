"""Claims of all kinds with their papers, and what tells whether a claim with a paper is to be accepted."""

from random import Random

from steamlinks import certificates
from steamlinks.alike import are_alike
from steamlinks.angles import is_angle
from steamlinks.engines import compare_pull, pull_sign
from steamlinks.errors import SteamError
from steamlinks.fits import fits, sighting_rows
from steamlinks.knots import compare_points, is_point
from steamlinks.links import is_link, valve_at
from steamlinks.looks import blind_pairs, seen, wrong_valve
from steamlinks.notches import are_same_lots, is_lot, lot_holds, state_notches
from steamlinks.regions import holds
from steamlinks.valves import ENDS, EVENTS, STATES, state_at
from steamlinks.zones import engine_at
from tests.samples import FORMS, NOTCHES, angles_up_to, some_links, some_polynomials, some_trees, some_valves
from tests.test_engines import some_engines
from tests.test_fits import some_sightings, sightings_of
from tests.test_looks import cases
from tests.test_zones import MIDDLE, PAIR, some_geared, starting_geared

# The function of each claim's word, and how many parts of the claim are its arguments.
MAKERS = {
    "holds": (certificates.certify_place, 2), "fails": (certificates.certify_place, 2), "never": (certificates.certify_region, 1),
    "sometimes": (certificates.certify_region, 1), "within": (certificates.certify_within, 2), "not within": (certificates.certify_within, 2),
    "state": (certificates.certify_state, 3), "blows": (certificates.certify_blow, 2), "tight": (certificates.certify_blow, 2),
    "share": (certificates.certify_share, 5), "opens": (certificates.certify_greatest, 3), "alike": (certificates.certify_alike, 2),
    "unlike": (certificates.certify_alike, 2), "alike links": (certificates.certify_links, 2), "unlike links": (certificates.certify_links, 2),
    "roots": (certificates.certify_roots, 1), "notches": (certificates.certify_notches, 4), "always": (certificates.certify_always, 4),
    "not always": (certificates.certify_always, 4), "kinds": (certificates.certify_kinds, 3), "starts": (certificates.certify_start, 2),
    "hangs": (certificates.certify_start, 2), "above": (certificates.certify_pull, 3), "not above": (certificates.certify_pull, 3),
    "zone": (certificates.certify_zone, 4), "no zone": (certificates.certify_zone, 4), "runs": (certificates.certify_run, 3),
    "stalls": (certificates.certify_run, 3), "fits": (certificates.certify_fit, 2), "misses": (certificates.certify_fit, 2),
    "fitting": (certificates.certify_fitting, 2), "barred": (certificates.certify_fitting, 2), "follows": (certificates.certify_following, 3),
    "free": (certificates.certify_following, 3), "blind": (certificates.certify_blind, 3), "parted": (certificates.certify_blind, 3),
    "looks": (certificates.certify_looks, 2),
}
# The words of claims that exclude one another.
EXCLUDED = (
    ("holds", "fails"), ("never", "sometimes"), ("within", "not within"), ("blows", "tight"), ("alike", "unlike"), ("alike links", "unlike links"),
    ("always", "not always"), ("starts", "hangs"), ("above", "not above"), ("zone", "no zone"), ("runs", "stalls"), ("fits", "misses"),
    ("fitting", "barred"), ("follows", "free"), ("blind", "parted"),
)
OTHER_WORD = {**dict(EXCLUDED), **{second: first for first, second in EXCLUDED}}
WITH_PAPER = (
    "sometimes", "not within", "blows", "unlike", "unlike links", "not always", "hangs", "not above", "stalls", "fitting", "barred", "free",
    "parted", "looks",
)


def is_angle_of(form, value):
    return is_angle(value) and value[0] == form


def are_parted(valve, other, angle):
    return any([state_at(valve, end, angle) != state_at(other, end, angle) for end in ENDS])


def is_shown(claim, paper):
    """Whether a thing of the kind that is told shows a true claim that has a paper."""
    word, told = claim[0], claim[1:]
    form = told[0] if word in ("fitting", "barred", "free") else told[0][0]
    if word == "sometimes":
        return is_angle_of(form, paper) and holds(told[0], paper)
    if word == "not within":
        return is_angle_of(form, paper) and holds(told[0], paper) and not holds(told[1], paper)
    if word == "blows":
        return is_angle_of(form, paper) and state_at(told[0], told[1], paper) == "both"
    if word == "unlike":
        return is_angle_of(form, paper) and are_parted(told[0], told[1], paper)
    if word == "unlike links":
        if not isinstance(paper, tuple) or len(paper) != 2 or not is_point(paper[0]) or not isinstance(paper[0][0], int):
            return False
        if abs(paper[0][0]) > paper[0][1] or not is_angle_of(form, paper[1]):
            return False
        return are_parted(valve_at(told[0], paper[0]), valve_at(told[1], paper[0]), paper[1])
    if word == "not always":
        if not is_point(paper) or compare_points(paper, (-1, 1)) < 0 or compare_points(paper, (1, 1)) > 0:
            return False
        return not lot_holds(state_notches(*told), paper)
    if word in ("hangs", "stalls"):
        engine = told[0] if word == "hangs" else engine_at(told[0], told[2])
        return is_angle_of(form, paper) and pull_sign(engine, paper) != told[1]
    if word == "not above":
        n, m = told[2]
        return is_angle_of(form, paper) and compare_pull(told[0], paper, (told[1] * n, m)) != told[1]
    return is_shown_by_more(word, told, form, paper)


def is_shown_by_more(word, told, form, paper):
    if word == "fitting":
        return is_link(paper) and paper[0] == form and fits(paper, told[1])
    if word == "free":
        return is_link(paper) and paper[0] == form and fits(paper, told[1]) and not fits(paper, told[2:])
    if word == "barred":
        many = len(told[1])
        if not isinstance(paper, tuple) or len(paper) != 2 or not all([isinstance(row, tuple) and len(row) == many for row in paper]):
            return False
        if any([type(number) is not int for row in paper for number in row]) or min(paper[1]) < 0 or max(paper[1]) == 0:
            return False
        rows = [sighting_rows(form, sighting) for sighting in told[1]]
        return not any([
            sum([a * even[at] + b * strict[at] for a, b, (even, strict) in zip(*paper, rows)]) for at in range(10)
        ])
    return is_shown_by_looks(word, told, form, paper)


def is_look(form, value):
    return isinstance(value, tuple) and len(value) == 2 and is_angle_of(form, value[0]) and type(value[1]) is str and value[1] in ENDS


def is_shown_by_looks(word, told, form, paper):
    if word == "parted":
        return is_look(form, paper) and len({seen(wrong_valve(told[0], wrong), paper) for wrong in told[1:]}) == 2
    if not isinstance(paper, tuple) or len(paper) != told[2] or not all([is_look(form, look) for look in paper]):
        return False
    valves = [wrong_valve(told[0], wrong) for wrong in told[1]]
    parted = {
        (index, other) for index in range(len(valves)) for other in range(index + 1, len(valves))
        if any([seen(valves[index], look) != seen(valves[other], look) for look in paper])
    }
    return len(parted) + len(blind_pairs(*told[:2])) == len(valves) * (len(valves) - 1) // 2


def is_right(claim, paper):
    """Whether a claim of plain things with a paper of plain things is to be accepted."""
    if not isinstance(claim, tuple) or not claim or not isinstance(claim[0], str) or claim[0] not in MAKERS:
        return False
    word = claim[0]
    maker, many = MAKERS[word]
    try:
        due, _ = maker(*claim[1:1 + many]) if len(claim) > many else (None, None)
    except SteamError:
        return False
    if due is None or len(due) != len(claim) or due[0] != word:
        return False
    if word == "notches":
        if not is_lot(claim[5]) or not are_same_lots(claim[5], due[5]):
            return False
    elif due != claim or [type(part) for part in due] != [type(part) for part in claim]:
        return False
    return is_shown(claim, paper) if word in WITH_PAPER else type(paper) is tuple and paper == ()


def some_arguments(many, seed):
    """The functions with arguments, so many of each."""
    chance = Random(seed)
    valves, links, engines = some_valves(3 * many, seed), some_links(2 * many, seed, 3), some_engines(many, seed)
    trees = some_trees(2 * many, seed)
    sightings, wrongs = some_sightings(many, seed), cases(many, seed)
    geared = some_geared(max(many // 3, 2), seed) + starting_geared(max(many // 3, 2), seed) + [PAIR, MIDDLE]
    ratios, notches = ((0, 1), (1, 1), (1, 2), (1, 3), (7, 9)), NOTCHES
    found = []
    for index in range(many):
        form = chance.choice(FORMS)
        angle = chance.choice(angles_up_to(form, 2))
        region, other = (form, trees[2 * index]), (form, trees[2 * index + 1])
        found += [("place", region, angle), ("region", region), ("region", (form, ("and", (other[1], ("not", other[1]))))), ("within", region, other),
                  ("within", region, (form, ("or", (region[1], other[1]))))]
        valve, second = valves[2 * index], valves[2 * index + 1]
        angle, end, sense = chance.choice(angles_up_to(valve[0], 2)), chance.choice(ENDS), chance.choice((1, -1))
        second = (valve[0],) + second[1:]
        found += [
            ("state", valve, end, angle), ("blow", valve, end), ("greatest", valve, end, chance.choice(ratios)), ("alike", valve, second),
            ("share", valve, chance.choice((None, (3, 1))), end, chance.choice(EVENTS), chance.choice(ratios[2:])),
            ("alike", valve, (valve[0], (3 * valve[1][0], 3 * valve[1][1]), tuple([3 * lap for lap in valve[2]]), 1)),
            ("kinds", valve, (chance.randint(-4, 4), chance.randint(-4, 4)), end),
        ]
        link, far = links[2 * index], links[2 * index + 1]
        angle, state = chance.choice(angles_up_to(link[0], 1)), chance.choice(STATES)
        longer = (link[0],) + tuple([tuple([2 * number for number in part]) for part in link[1:5]]) + (1,)
        found += [
            ("links", link, (link[0],) + far[1:]), ("links", link, longer), ("notches", link, angle, end, state), ("always", link, angle, end, state),
            ("always", (link[0], link[1], (0, 0), (0, 0), link[4], 1), angle, end, "closed"), ("fit", link, sightings_of(link, 3, chance) or sightings[index][1]),
        ]
        steady, still = (link[0], link[1], (0, 0), (0, 0), link[4], 1), valve_at((link[0], link[1], (0, 0), (0, 0), link[4], 1), (0, 1))
        found += [("always", steady, angle, end, state_at(still, end, angle)), ("start", engine_at(PAIR, (1, 2)), sense)]
        found += [("start", engines[index], sense), ("pull", engines[index], sense, (chance.choice((-9, -1, 0, 1)), chance.choice((1, 2)) | 1))]
        engine = chance.choice(geared)
        low, high = sorted(chance.sample(range(len(notches)), 2))
        found += [
            ("zone", engine, sense, notches[low], notches[high]), ("zone", MIDDLE, sense, (3, 4), (1, 1)), ("run", engine, sense, notches[low]),
            ("run", PAIR, sense, chance.choice(notches)), ("zone", PAIR, sense, *chance.choice((((-1, 1), (0, 1)), ((0, 1), (1, 1)), ((-1, 2), (1, 2))))),
        ]
        form, told = sightings[index]
        found += [("fit", (form,) + link[1:], told), ("fitting", form, told), ("fitting", form, told[:2])]
        own = sightings_of(link, 8, chance)
        if own:
            found += [("following", link[0], own, chance.choice(own)), ("following", link[0], own[:1], own[-1]), ("fitting", link[0], own)]
        valve, told = wrongs[index]
        found += [("blind", valve, told[0], told[-1]), ("looks", valve, told), ("roots", some_polynomials(1, seed + index)[0])]
    return [(getattr(certificates, "certify_" + name[0]), name[1:]) for name in found]


def some_claims(many, seed):
    """Pairs of claims and papers, so many of each function or a few more; those that cannot be made left out."""
    pairs = []
    for maker, arguments in some_arguments(many, seed):
        try:
            pairs.append(maker(*arguments))
        except SteamError:
            pass
    return pairs

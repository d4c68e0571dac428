"""Angles, ways and other things in great number, always the same ones."""

from math import gcd
from random import Random

FORMS = (1, 2, 3)
GREAT = 10 ** 399
TURNS = ((1, 0), (0, 1), (1, 1), (1, -1), (1, 2), (2, 1), (3, -1), (5, 7), (2, -3))


def angles_up_to(form, most):
    """All angles with numbers from -most to most."""
    around = range(-most, most + 1)
    return [
        (form, a, b, l)
        for a in around for b in around for l in around
        if l * l < a * a + form * b * b and gcd(a, b, l) == 1
    ]


def ways_up_to(most):
    around = range(-most, most + 1)
    return [(c, s) for c in around for s in around if gcd(c, s) == 1]


def on_way(form, way):
    a, b = -form * way[1], way[0]
    return (form, a // gcd(a, b), b // gcd(a, b), 0)


def vectors_up_to(most):
    around = range(-most, most + 1)
    return [(a, b) for a in around for b in around]


def some_tree(chance, deep, most):
    """A tree at most so deep, made by a Random."""
    word = chance.choice(("side", "side", "side", "not", "and", "or", "all") if deep > 1 else ("side", "side", "all"))
    if word == "all":
        return ("all",)
    if word == "side":
        vector = (chance.randint(-most, most), chance.randint(-most, most))
        return ("side", vector, chance.randint(-most, most))
    if word == "not":
        return ("not", some_tree(chance, deep - 1, most))
    return (word, tuple(some_tree(chance, deep - 1, most) for _ in range(chance.randint(1, 3))))


def some_trees(many, seed, deep=3, most=3):
    chance = Random(seed)
    return [some_tree(chance, deep, most) for _ in range(many)]


def some_valves(many, seed, most=5):
    """Valves with small numbers, so that touches, common places and lost events are among them."""
    chance = Random(seed)
    valves = []
    while len(valves) < many:
        vector = (chance.randint(-most, most), chance.randint(-most, most))
        laps = tuple(chance.randint(-most, most) for _ in range(4))
        port = chance.randint(1, 4)
        if gcd(*vector, *laps, port) == 1:
            valves.append((chance.choice(FORMS), vector, laps, port))
    return valves


def product(*factors):
    """The product of polynomials."""
    numbers = [1]
    for factor in factors:
        sums = [0] * (len(numbers) + len(factor) - 1)
        for index, first in enumerate(numbers):
            for place, second in enumerate(factor):
                sums[index + place] += first * second
        numbers = sums
    return tuple(numbers)


def some_polynomials(many, seed, longest=6, most=4):
    chance = Random(seed)
    found = []
    for _ in range(many):
        numbers = [chance.randint(-most, most) for _ in range(chance.randint(0, longest))]
        while numbers and numbers[-1] == 0:
            numbers.pop()
        found.append(tuple(numbers))
    return found


NOTCHES = ((-1, 1), (-3, 4), (-2, 3), (-1, 2), (-1, 5), (0, 1), (1, 7), (1, 3), (1, 2), (5, 7), (7, 8), (1, 1))


def some_links(many, seed, most=4):
    """Links with small numbers, some of them without one or two of their vectors."""
    chance = Random(seed)
    links = []
    while len(links) < many:
        vectors = [(chance.randint(-most, most), chance.randint(-most, most)) for _ in range(3)]
        for index in (1, 2):
            if chance.random() < 0.25:
                vectors[index] = (0, 0)
        laps = tuple(chance.randint(-most, most) for _ in range(4))
        port = chance.randint(1, 4)
        if gcd(*vectors[0], *vectors[1], *vectors[2], *laps, port) == 1:
            links.append((chance.choice(FORMS), *vectors, laps, port))
    return links

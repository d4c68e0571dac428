"""Consoles: workshops led by lines of text."""

from steamlinks.angles import angle_on_way, is_way
from steamlinks.engines import angle_not_above, states_on
from steamlinks.errors import InvalidPhrase, NotAWorkshop
from steamlinks.texts import engine_in, numbers_in, numbers_text, thing_text, valve_in
from steamlinks.valves import ENDS, is_valve, leads, state_on
from steamlinks.wishes import is_name
from steamlinks.workshops import Workshop


def way_in(text):
    """The way of a text, None if it tells none."""
    numbers = numbers_in(text)
    return numbers if is_way(numbers) else None


def told_in(word, text):
    """What a phrase with this word tells behind its name, None if that is nothing."""
    if word == "valve":
        return valve_in(text)
    if word == "engine":
        return engine_in(text)
    if word == "state":
        return way_in(text)
    return None


def phrase_in(line):
    """The word, the name and what is told of a line, each None that is not there; None if the line is no phrase."""
    if line in ("undo", "names"):
        return (line, None, None)
    head, colon, text = line.partition(": ")
    word, _, name = head.partition(" ")
    if not is_name(name):
        return None
    if not colon:
        return (word, name, None) if word in ("drop", "show", "leads", "starts") else None
    told = told_in(word, text)
    return None if told is None else (word, name, told)


def states_text(thing, way):
    angle = angle_on_way(thing[0], way)
    if is_valve(thing):
        return " ".join([state_on(thing, end, angle) for end in ENDS])
    return "; ".join([" ".join(list(states)) for states in states_on(thing, angle)])


def leads_text(thing):
    if is_valve(thing):
        return numbers_text(leads(thing))
    return "none"


def starts_text(thing):
    if is_valve(thing):
        return "none"
    for sense, word in ((1, "forward"), (-1, "backward")):
        if angle_not_above(thing, sense, (0, 1)) is None:
            return word
    return "neither"


def answer_of(word, thing, told):
    if word == "show":
        return thing_text(thing)
    if word == "leads":
        return leads_text(thing)
    if word == "starts":
        return starts_text(thing)
    return states_text(thing, told)


class Console:
    def __init__(self, shop):
        if not isinstance(shop, Workshop):
            raise NotAWorkshop(shop)
        self.shop = shop

    def __eq__(self, other):
        # The other one is not asked, whatever it is.
        return self is other

    def say(self, line):
        phrase = phrase_in(line) if isinstance(line, str) else None
        if phrase is None:
            raise InvalidPhrase(line)
        word, name, told = phrase
        if word == "names":
            return " ".join(list(self.shop.names)) if self.shop.names else "none"
        if word == "undo":
            self.shop.undo()
        elif word == "drop":
            self.shop.drop(name)
        elif word in ("valve", "engine"):
            self.shop.put(name, told)
        else:
            return answer_of(word, self.shop.named(name), told)
        return "done"

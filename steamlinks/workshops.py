"""Workshops: valves and engines under names, and wishes about them that always hold."""

from steamlinks.basics import is_whole
from steamlinks.errors import Broken, InUse, InvalidIndex, InvalidName, InvalidThing, InvalidWish, NothingToUndo
from steamlinks.errors import UnknownName
from steamlinks.wishes import does_hold, is_name, is_thing, is_wish, names_in


class Trial:
    """For a `with` statement: if its block ends with an exception, the workshop is as it was when the block began."""

    def __init__(self, shop):
        self.shop = shop
        self.things = None
        self.told = None
        self.past = None

    def __eq__(self, other):
        return self is other

    def __enter__(self):
        self.things = self.shop.things
        self.told = self.shop.told
        self.past = self.shop.past
        return self.shop

    def __exit__(self, kind, value, trace):
        if kind is not None:
            self.shop.things = self.things
            self.shop.told = self.told
            self.shop.past = self.past


class Workshop:
    def __init__(self):
        # None of these is ever modified: each change puts new ones in their places, so that the old ones can be kept.
        self.things = {}
        self.told = ()
        # The things and the wishes before each change that can be taken back.
        self.past = ()

    def __eq__(self, other):
        # The other one is not asked, whatever it is.
        return self is other

    def __len__(self):
        return len(self.past)

    def __bool__(self):
        return True

    def __contains__(self, name):
        return is_name(name) and name in self.things

    @property
    def names(self):
        return tuple(sorted(list(self.things)))

    @property
    def wishes(self):
        return self.told

    def change(self, things, told):
        self.past = self.past + ((self.things, self.told),)
        self.things = things
        self.told = told

    def check_known(self, name):
        if not is_name(name) or name not in self.things:
            raise UnknownName(name)

    def put(self, name, thing):
        if not is_name(name):
            raise InvalidName(name)
        if not is_thing(thing):
            raise InvalidThing(thing)
        things = dict(self.things)
        things[name] = thing
        for index in range(len(self.told)):
            # The wishes that do not name it hold as before.
            if name in names_in(self.told[index]) and not does_hold(self.told[index], things):
                raise Broken(index)
        self.change(things, self.told)

    def drop(self, name):
        self.check_known(name)
        for index in range(len(self.told)):
            if name in names_in(self.told[index]):
                raise InUse(index)
        self.change({other: self.things[other] for other in self.things if other != name}, self.told)

    def wish(self, wish):
        if not is_wish(wish):
            raise InvalidWish(wish)
        for name in names_in(wish):
            self.check_known(name)
        if not does_hold(wish, self.things):
            raise Broken(len(self.told))
        self.change(self.things, self.told + (wish,))

    def lift(self, index):
        if not is_whole(index) or not 0 <= index < len(self.told):
            raise InvalidIndex(index)
        self.change(self.things, self.told[:index] + self.told[index + 1:])

    def named(self, name):
        self.check_known(name)
        return self.things[name]

    def undo(self):
        if not self.past:
            raise NothingToUndo()
        self.things, self.told = self.past[-1]
        self.past = self.past[:-1]

    def trial(self):
        return Trial(self)

    def tried(self, action):
        with self.trial() as shop:
            return action(shop)

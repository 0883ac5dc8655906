"""Towers: methods, touches, books and programs that are kept by their names."""

from truetouch.errors import BadName, InUse, TooMany, Twice, Unknown, Unlike
from truetouch.forms import is_name
from truetouch.methods import Method
from truetouch.touches import Touch

MOST_THINGS = 30


class Tower:
    """The things that are kept, and the deeds by which they were added and struck."""

    def __init__(self):
        # For each name the thing and the name of its method, which is None for a method.
        self._things = {}
        # For each deed its word, the name, the name of the method and the thing.
        self._deeds = []

    def keep_method(self, name, method):
        """Adds a method."""
        self.judge_new_name(name)
        self.add_thing("method", name, None, method)

    def keep_touch(self, name, of, calling):
        """Adds the touch of a calling."""
        self.judge_new_name(name)
        self.judge_method_name(of)
        self.add_thing("touch", name, of, Touch(self.method_kept(of), calling))

    def keep_book(self, name, of, book):
        """Adds a book."""
        self.judge_new_name(name)
        self.judge_method_name(of)
        self.judge_method_of(book, of)
        self.add_thing("book", name, of, book)

    def keep_program(self, name, of, program):
        """Adds a program."""
        self.judge_new_name(name)
        self.judge_method_name(of)
        self.judge_method_of(program, of)
        self.add_thing("program", name, of, program)

    def strike(self, name):
        """Strikes a thing."""
        if not is_name(name):
            raise BadName(name)
        if name not in self._things:
            raise Unknown(name)
        users = [user for user, (_, of) in self._things.items() if of == name]
        if users:
            raise InUse(users[0])
        del self._things[name]
        self._deeds.append(("strike", name, None, None))

    def method_of(self, name):
        """The name of the method of a thing, None for a method."""
        if name not in self:
            raise Unknown(name)
        return self._things[name][1]

    @property
    def deeds(self):
        """How many deeds were done."""
        return len(self._deeds)

    def deeds_told(self):
        """All deeds, in order."""
        return tuple(self._deeds)

    def method_kept(self, name):
        """The method that is kept by this name, None if there is none."""
        thing = self._things[name][0] if name in self else None
        return thing if isinstance(thing, Method) else None

    def copy(self):
        """Another tower, which is equal to this one."""
        twin = Tower()
        twin._things = dict(self._things)
        twin._deeds = list(self._deeds)
        return twin

    def judge_new_name(self, name):
        """Raises the error that is due if this is no name, or that of a thing which is kept."""
        if not is_name(name):
            raise BadName(name)
        if name in self._things:
            raise Twice(name)

    def judge_method_name(self, of):
        """Raises the error that is due if no method is kept by this name."""
        if self.method_kept(of) is None:
            raise Unknown(of)

    def judge_method_of(self, thing, of):
        """Raises the error that is due if the thing is over another method than the one kept by this name."""
        if thing.method != self.method_kept(of):
            raise Unlike("method")

    def add_thing(self, word, name, of, thing):
        """Adds a thing that has been judged, if there is room for it."""
        if len(self._things) >= MOST_THINGS:
            raise TooMany("thing")
        self._things[name] = (thing, of)
        self._deeds.append((word, name, of, thing))

    def __contains__(self, x):
        return isinstance(x, str) and x in self._things

    def __len__(self):
        return len(self._things)

    def __iter__(self):
        return iter(self._things)

    def __getitem__(self, at):
        if at not in self:
            raise Unknown(at)
        return self._things[at][0]

    def __eq__(self, other):
        return isinstance(other, Tower) and self._deeds == other._deeds

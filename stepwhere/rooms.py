"""Rooms: a current context and a log, deeds done within contexts, and the pieces that are made there."""

from stepwhere.contexts import Context, Token
from stepwhere.errors import BadQuestion, Fails
from stepwhere.machine import OVER, Machine
from stepwhere.pieces import need_book, piece_called


class Within:
    """For one with statement: the context is the current one of the room while its block runs."""

    def __init__(self, room, context):
        self.room = room
        self.context = context
        self.elder = None

    def __enter__(self):
        if self.context.is_busy:
            raise Fails("entered")
        self.elder = self.room.now
        self.room.now = self.context
        self.context.is_busy = True
        return self.context

    def __exit__(self, kind, value, trace):
        self.room.now = self.elder
        self.context.is_busy = False


class Instance:
    """A piece that a room made, and that is stepped and closed in whatever context is the current one there."""

    def __init__(self, room, machine):
        self.is_over = False
        self._room = room
        self._machine = machine

    def step(self):
        """Goes on to the next yield or to the end: "yielded" or "ended"."""
        return self._tell(self._machine.take_step(self._room))

    def close(self):
        """Ends what is around the yield: "closed", or "ended" where a failure led on to the end."""
        return self._tell(self._machine.take_close(self._room))

    def _tell(self, end):
        self.is_over = self._machine.phase == OVER
        if end[0] == "failed":
            raise Fails(end[1])
        self._room.note(end)
        return end[0]


class Room:
    """A room of a book; now is its current context."""

    def __init__(self, book):
        self._book = need_book(book)
        self._events = []
        self.now = Context()
        self.now.is_busy = True

    def put(self, variable, value):
        """The variable becomes that value."""
        self.now[variable] = value

    def drop(self, variable):
        """The variable becomes unset."""
        self.now.drop(variable)

    def read(self, variable):
        """What the variable is."""
        return self.now[variable]

    def has_value(self, variable, number):
        """Whether the variable is set, and to this very number."""
        return variable in self.now and self.now[variable] == number

    def show(self, variable):
        """What the variable is comes into the log."""
        self.note(("shown", variable, self.now[variable]))

    def hold(self, variable, value):
        """A token that remembers what the variable was before it became that value."""
        token = Token(self.now, variable)
        self.now[variable] = value
        return token

    def reset(self, token):
        """The variable of the token becomes what the token remembers."""
        if token.is_used:
            raise Fails("used")
        if not token.context.is_same(self.now):
            raise Fails("elsewhere")
        if token.old is None:
            self.now.drop(token.variable)
        else:
            self.now[token.variable] = token.old
        token.is_used = True

    def copy(self):
        """A new context like the current one."""
        return self.now.copy()

    def run(self, context, deed, *rest, **more):
        """What the deed returns, called with the context as the current one."""
        with self.within(context):
            return deed(*rest, **more)

    def within(self, context):
        """An object for one with statement, whose block runs with the context as the current one."""
        return Within(self, context)

    def make(self, name, *rest):
        """A fresh instance of the piece called name, to which a context, a token or None is handed for each param."""
        _, params, block = piece_called(self._book, name)
        if len(rest) != len(params):
            raise BadQuestion("there are not as many args as the piece has params")
        slots = {}
        for (slot, kind), arg in zip(params, rest):
            if arg is not None:
                if not is_of_kind(arg, kind):
                    raise BadQuestion("an arg is not of the kind of its param")
                slots[slot] = arg
        return Instance(self, Machine(block, slots))

    def log(self):
        """The list of the events so far."""
        return list(self._events)

    def note(self, event):
        """The event comes into the log."""
        self._events.append(event)


def is_of_kind(thing, kind):
    """Whether thing is what a slot of that kind holds."""
    if kind == "context":
        return isinstance(thing, Context)
    return isinstance(thing, Token)


def under(manager, deed):
    """What the deed returns, called with what the manager gives, in a with statement over the manager."""
    with manager as one:
        return deed(one)

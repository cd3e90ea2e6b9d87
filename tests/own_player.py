"""A player of programs that is written by itself, and looks at each turn: how it ends, and whether it is LOUD, [25]."""

from stepwhere.errors import Fails
from stepwhere.rooms import Room


class Turn:

    def __init__(self, word, end, is_loud, events):
        self.word = word
        self.end = end
        self.is_loud = is_loud
        self.events = events


class OwnPlayer:
    """Plays a program; turns are those of all pieces that it makes, the number that is left out is not counted here."""

    def __init__(self, book, program):
        self.room = Room(book)
        self.first = self.room.now
        self.slots = {}
        self.kinds = {}
        self.events = []
        self.turns = []
        self.in_use = [self.first]
        self.is_done = self.block(program)

    def block(self, program):
        return all(self.is_fine(step) for step in program)

    def is_fine(self, step):
        """Does one step: whether it does not fail; the event of a failure is told by the innermost one."""
        word, *parts = step
        if word == "guard":
            self.block(parts[0])
            return True
        if word == "within":
            return self.within(*parts)
        return self.attempt(lambda: getattr(self, "do_" + word)(*parts))

    def attempt(self, deed):
        try:
            deed()
        except Fails as failure:
            self.events.append(("failed", failure.word))
            return False
        return True

    def held(self, slot):
        if slot not in self.slots:
            raise Fails("empty")
        return self.slots[slot]

    def within(self, slot, program):
        told = []

        def begin():
            context = self.held(slot)

            def deed():
                self.in_use.append(context)
                told.append(self.block(program))
                self.in_use.pop()
            self.room.run(context, deed)

        return self.attempt(begin) and told[0]

    def do_set(self, variable, value):
        self.room.put(variable, value)

    def do_drop(self, variable):
        self.room.drop(variable)

    def do_hold(self, slot, variable, value):
        self.slots[slot] = self.room.hold(variable, value)
        self.kinds[slot] = "token"

    def do_copy(self, slot):
        self.slots[slot] = self.room.copy()
        self.kinds[slot] = "context"

    def do_reset(self, slot):
        self.room.reset(self.held(slot))

    def do_show(self, variable):
        self.events.append(("shown", variable, self.room.read(variable)))

    def do_make(self, slot, name, given):
        self.slots[slot] = self.room.make(name, *[self.slots.get(one) for one in given])
        self.kinds[slot] = "piece"

    def do_step(self, slot):
        self.turn("step", self.held(slot).step)

    def do_close(self, slot):
        self.turn("close", self.held(slot).close)

    def seen(self):
        """What of all that a program can look at a turn could change."""
        contexts = self.in_use + [self.slots[slot] for slot in sorted(self.slots) if self.kinds[slot] == "context"]
        tokens = [self.slots[slot] for slot in sorted(self.slots) if self.kinds[slot] == "token"]
        return [context.pairs() for context in contexts], [token.is_used for token in tokens]

    def turn(self, word, deed):
        ahead, begin = self.seen(), len(self.room.log())
        try:
            end, failure = deed(), None
        except Fails as caught:
            end, failure = caught.word, caught
        events = self.room.log()[begin:]
        self.events.extend(events)
        self.turns.append(Turn(word, end, self.seen() != ahead, events))
        if failure is not None:
            raise failure


def turns_of(book, program):
    return OwnPlayer(book, program).turns


def log_of(book, program):
    return tuple(OwnPlayer(book, program).events)

"""Programs as they are played, and the log that comes of it."""

from stepwhere.errors import BadQuestion, Fails
from stepwhere.pieces import kinds_of, piece_called
from stepwhere.programs import need_program
from stepwhere.rooms import Room


def do_set(player, variable, value):
    player.room.put(variable, value)


def do_hold(player, slot, variable, value):
    player.slots[slot] = player.room.hold(variable, value)


def do_reset(player, slot):
    player.room.reset(player.held_by(slot))


def do_drop(player, variable):
    player.room.drop(variable)


def do_show(player, variable):
    player.room.show(variable)


def do_copy(player, slot):
    player.slots[slot] = player.room.copy()


def do_make(player, slot, name, given):
    things = [player.slots.get(one) for one in given]
    player.slots[slot] = player.room.make(player.called.get(name, name), *things)


def do_step(player, slot):
    player.held_by(slot).step()


def do_close(player, slot):
    player.held_by(slot).close()


# "within" and "guard" are none of these: they play a program of their own.
DEEDS = {
    "set": do_set,
    "hold": do_hold,
    "reset": do_reset,
    "drop": do_drop,
    "show": do_show,
    "copy": do_copy,
    "make": do_make,
    "step": do_step,
    "close": do_close,
}


class Player:
    """Plays the steps of a program in a room; called tells of names of pieces which others are made for them."""

    def __init__(self, book, called):
        self.room = Room(book)
        self.called = called
        self.slots = {}

    def held_by(self, slot):
        """What a slot of the program holds."""
        if slot not in self.slots:
            raise Fails("empty")
        return self.slots[slot]

    def play(self, program):
        """Whether all steps are done; the log has the failure of the one that was not."""
        for step in program:
            if not self.does(step):
                return False
        return True

    def does(self, step):
        """Whether a step does not fail, and none does within it for which no guard is there."""
        if step[0] == "guard":
            self.play(step[1])
            return True
        try:
            if step[0] == "within":
                with self.room.within(self.held_by(step[1])):
                    # What fails in there is in the log by then: no failure comes out of it.
                    return self.play(step[2])
            word, *parts = step
            deed = DEEDS[word]
            deed(self, *parts)
        except Fails as failure:
            self.room.note(("failed", failure.word))
            return False
        return True


def log_of(book, program, called):
    """The log of what is known to be a program of the book."""
    player = Player(book, called)
    player.play(program)
    return tuple(player.room.log())


def play(book, program):
    """The log of the program."""
    return log_of(book, need_program(book, program), {})


def play_with(book, program, one, other):
    """The log of the program in which the piece other is made wherever the piece one is made in this one."""
    need_program(book, program)
    pieces = [piece_called(book, name) for name in (one, other)]
    if kinds_of(pieces[0]) != kinds_of(pieces[1]):
        raise BadQuestion("the params of the two pieces are of other kinds, or in another order")
    return log_of(book, program, {one: other})

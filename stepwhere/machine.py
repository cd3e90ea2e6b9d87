"""The machine that runs a piece: from where it stands to its next yield, its end or its failure.

A room is passed to it, in which the statements do what they do.
"""

from stepwhere.errors import Fails
from stepwhere.forms import blocks_of

FRESH = "fresh"
STANDS = "stands"
OVER = "over"


class Frame:
    """A block that has begun and not ended, and what its end or a failure in it asks for.

    The way leads to the block, word is that of the statement around it (of none for the outermost one).
    """

    def __init__(self, block, way, word="", token=None, rescue=None):
        self.block = block
        self.way = way
        self.word = word
        self.at = 0
        self.token = token
        self.rescue = rescue


def frames_at(block, way):
    """The frames, from without inward, of a piece that stands at the yield to which way leads, without their tokens."""
    frames = [Frame(block, ())]
    for deep in range(1, len(way), 2):
        outer = frames[-1]
        outer.at = way[deep - 1] + 1
        statement = outer.block[way[deep - 1]]
        blocks = blocks_of(statement)
        inner = Frame(blocks[way[deep]], way[:deep + 1], statement[0])
        if inner.word == "guard" and way[deep] == 0:
            inner.rescue = blocks[1]
        frames.append(inner)
    frames[-1].at = way[-1] + 1
    return frames


def value_of(room, source):
    """The integer that a source is, or that the variable has in the current context."""
    return room.read(source) if isinstance(source, str) else source


def held_by(machine, slot):
    """What a slot of the piece holds."""
    if slot not in machine.slots:
        raise Fails("empty")
    return machine.slots[slot]


def shut(room, frame):
    """Ends what a frame stands for: the token of a "with" is reset."""
    if frame.token is not None:
        room.reset(frame.token)


def do_set(machine, room, statement):
    _, variable, source = statement
    room.put(variable, value_of(room, source))


def do_hold(machine, room, statement):
    _, slot, variable, source = statement
    machine.slots[slot] = room.hold(variable, value_of(room, source))


def do_reset(machine, room, statement):
    room.reset(held_by(machine, statement[1]))


def do_drop(machine, room, statement):
    room.drop(statement[1])


def do_show(machine, room, statement):
    room.show(statement[1])


def do_copy(machine, room, statement):
    machine.slots[statement[1]] = room.copy()


def do_within(machine, room, statement):
    _, slot, block = statement
    with room.within(held_by(machine, slot)):
        # No yield and no leave leads out of this block: it ends or fails within this very step.
        inner = Machine(block, machine.slots, machine.here() + (0,))
        end = inner.take_step(room)
        machine.begun.extend(inner.begun)
        if end[0] == "failed":
            raise Fails(end[1])


def do_if(machine, room, statement):
    _, variable, number, block, other = statement
    if room.has_value(variable, number):
        machine.frames.append(Frame(block, machine.here() + (0,), "if"))
    else:
        machine.frames.append(Frame(other, machine.here() + (1,), "if"))


def do_with(machine, room, statement):
    _, variable, source, block = statement
    token = room.hold(variable, value_of(room, source))
    machine.frames.append(Frame(block, machine.here() + (0,), "with", token=token))


def do_guard(machine, room, statement):
    _, block, rescue = statement
    machine.frames.append(Frame(block, machine.here() + (0,), "guard", rescue=rescue))


def do_loop(machine, room, statement):
    machine.frames.append(Frame(statement[1], machine.here() + (0,), "loop"))


def do_leave(machine, room, statement):
    frame = machine.frames.pop()
    while frame.word != "loop":
        shut(room, frame)
        frame = machine.frames.pop()


def do_fail(machine, room, statement):
    raise Fails("own")


# "yield" is none of these: it is where the machine stops.
ACTIONS = {
    "set": do_set,
    "hold": do_hold,
    "reset": do_reset,
    "drop": do_drop,
    "show": do_show,
    "copy": do_copy,
    "within": do_within,
    "if": do_if,
    "with": do_with,
    "guard": do_guard,
    "loop": do_loop,
    "leave": do_leave,
    "fail": do_fail,
}


class Machine:
    """A block that is run step by step, and the slots that its statements use.

    How a step or a closing ends is told as an event: ("yielded",), ("ended",), ("closed",) or ("failed", WORD).
    The ways in begun lead to the statements that were begun in the last turn.
    """

    def __init__(self, block, slots, way=()):
        self.phase = FRESH
        self.slots = slots
        self.frames = [Frame(block, way)]
        self.begun = []

    def take_step(self, room):
        """One step, in the current context of the room."""
        self.begun = []
        if self.phase == OVER:
            return ("failed", "over")
        return self.go_on(room, None)

    def take_close(self, room):
        """One closing, in the current context of the room; the frame of a fresh piece asks for nothing."""
        self.begun = []
        while self.frames:
            frame = self.frames.pop()
            try:
                shut(room, frame)
            except Fails as failure:
                end = self.go_on(room, self.fall(room, failure.word))
                return ("failed", "ignored") if end[0] == "yielded" else end
        self.phase = OVER
        return ("closed",)

    def go_on(self, room, word):
        """Runs as far as a step goes; word is that of a failure which no guard took, or None."""
        while word is None and self.frames:
            statement = self.next_statement()
            if statement == ("yield",):
                self.phase = STANDS
                return ("yielded",)
            word = self.failure_of(room, statement)
        self.phase = OVER
        return ("ended",) if word is None else ("failed", word)

    def next_statement(self):
        """The next statement of the innermost block, or None at its end."""
        frame = self.frames[-1]
        if frame.at == len(frame.block):
            return None
        frame.at += 1
        self.begun.append(self.here())
        return frame.block[frame.at - 1]

    def here(self):
        """The way to the statement that was begun last in the innermost block."""
        frame = self.frames[-1]
        return frame.way + (frame.at - 1,)

    def failure_of(self, room, statement):
        """Does a statement, or ends a block: the word of a failure which no guard took, or None."""
        try:
            if statement is None:
                self.end_block(room)
            else:
                action = ACTIONS[statement[0]]
                action(self, room, statement)
        except Fails as failure:
            return self.fall(room, failure.word)
        return None

    def end_block(self, room):
        """The innermost block is at its end: that of a loop begins again."""
        frame = self.frames[-1]
        if frame.word == "loop":
            frame.at = 0
        else:
            self.frames.pop()
            shut(room, frame)

    def fall(self, room, word):
        """A failure goes outward: None if a guard takes it, else its word when it comes out of the piece."""
        while self.frames:
            frame = self.frames.pop()
            if frame.rescue is not None:
                self.frames.append(Frame(frame.rescue, frame.way[:-1] + (1,), "guard"))
                return None
            try:
                shut(room, frame)
            except Fails as failure:
                word = failure.word
        return word

"""Pieces as generators of Python itself, over its own context variables, to compare with, [14].

PythonRoom has the methods of a Room that scripts call. Each piece is written out as the source of one generator.
"""

import contextvars


class Failure(Exception):
    """What a statement or a step fails with; its word is the first argument."""


UNSET = object()


class PythonToken:

    def __init__(self, variable, token):
        self.variable = variable
        self.token = token


class PythonRoom:
    """Its methods are called in the context that is the current one of Python."""

    def __init__(self, book):
        self.variables = {name: contextvars.ContextVar(name, default=UNSET) for name in book[0]}
        self.pieces = {piece[0]: piece for piece in book[1]}
        self.events = []
        # Python closes a generator that nobody holds, a room does not: all of them are held here.
        self.made = []

    def put(self, variable, value):
        self.variables[variable].set(value)

    def drop(self, variable):
        self.variables[variable].set(UNSET)

    def read(self, variable):
        value = self.variables[variable].get()
        if value is UNSET:
            raise Failure("unset")
        return value

    def is_value(self, variable, value):
        return self.variables[variable].get() == value

    def show(self, variable):
        self.events.append(("shown", variable, self.read(variable)))

    def hold(self, variable, value):
        return PythonToken(variable, self.variables[variable].set(value))

    def reset(self, token):
        try:
            self.variables[token.variable].reset(token.token)
        except ValueError:
            raise Failure("elsewhere") from None
        except RuntimeError:
            raise Failure("used") from None

    def copy(self):
        return contextvars.copy_context()

    def run(self, context, deed, *args):
        try:
            return context.run(deed, *args)
        except RuntimeError:
            raise Failure("entered") from None

    def make(self, name, *args):
        _, params, block = self.pieces[name]
        slots = {slot: thing for (slot, kind), thing in zip(params, args) if thing is not None}
        made = PythonInstance(self, generator_of(block)(self, slots))
        self.made.append(made)
        return made

    def log(self):
        return list(self.events)

    def pairs(self):
        told = [(name, variable.get()) for name, variable in sorted(self.variables.items())]
        return tuple([(name, value) for name, value in told if value is not UNSET])


class PythonInstance:

    def __init__(self, room, generator):
        self.room = room
        self.generator = generator
        self.is_over = False
        self.is_fresh = True

    def ends(self, end):
        self.room.events.append((end,))
        return end

    def step(self):
        if self.is_over:
            raise Failure("over")
        self.is_fresh = False
        try:
            next(self.generator)
        except StopIteration:
            self.is_over = True
            return self.ends("ended")
        except Failure:
            self.is_over = True
            raise
        return self.ends("yielded")

    def close(self):
        if self.is_over or self.is_fresh:
            self.is_over = True
            return self.ends("closed")
        try:
            self.generator.throw(GeneratorExit)
        except GeneratorExit:
            self.is_over = True
            return self.ends("closed")
        except StopIteration:
            self.is_over = True
            return self.ends("ended")
        except Failure:
            self.is_over = True
            raise
        raise Failure("ignored")


def held(slots, slot):
    if slot not in slots:
        raise Failure("empty")
    return slots[slot]


class Source:
    """The source of a generator: one row of Python for each row of a piece, or several."""

    def __init__(self):
        self.rows = []
        self.many = 0

    def write(self, deep, row):
        self.rows.append("    " * deep + row)

    def value(self, source):
        return f"room.read({source!r})" if isinstance(source, str) else repr(source)

    def block(self, deep, block):
        self.write(deep, "pass")
        for statement in block:
            getattr(self, "write_" + statement[0])(deep, *statement[1:])

    def write_set(self, deep, variable, source):
        self.write(deep, f"room.put({variable!r}, {self.value(source)})")

    def write_hold(self, deep, slot, variable, source):
        self.write(deep, f"slots[{slot!r}] = room.hold({variable!r}, {self.value(source)})")

    def write_reset(self, deep, slot):
        self.write(deep, f"room.reset(held(slots, {slot!r}))")

    def write_drop(self, deep, variable):
        self.write(deep, f"room.drop({variable!r})")

    def write_show(self, deep, variable):
        self.write(deep, f"room.show({variable!r})")

    def write_copy(self, deep, slot):
        self.write(deep, f"slots[{slot!r}] = room.copy()")

    def write_within(self, deep, slot, block):
        self.many += 1
        name = f"inner_{self.many}"
        self.write(deep, f"def {name}():")
        self.block(deep + 1, block)
        self.write(deep, f"room.run(held(slots, {slot!r}), {name})")

    def write_if(self, deep, variable, number, block, other):
        self.write(deep, f"if room.is_value({variable!r}, {number}):")
        self.block(deep + 1, block)
        self.write(deep, "else:")
        self.block(deep + 1, other)

    def write_with(self, deep, variable, source, block):
        self.many += 1
        name = f"token_{self.many}"
        self.write(deep, f"{name} = room.hold({variable!r}, {self.value(source)})")
        self.write(deep, "try:")
        self.block(deep + 1, block)
        self.write(deep, "finally:")
        self.write(deep + 1, f"room.reset({name})")

    def write_guard(self, deep, block, other):
        self.many += 1
        name = f"failed_{self.many}"
        self.write(deep, f"{name} = False")
        self.write(deep, "try:")
        self.block(deep + 1, block)
        self.write(deep, "except Failure:")
        self.write(deep + 1, f"{name} = True")
        self.write(deep, f"if {name}:")
        self.block(deep + 1, other)

    def write_loop(self, deep, block):
        self.write(deep, "while True:")
        self.block(deep + 1, block)

    def write_leave(self, deep):
        self.write(deep, "break")

    def write_yield(self, deep):
        self.write(deep, "yield")

    def write_fail(self, deep):
        self.write(deep, "raise Failure('own')")


def generator_of(block):
    """The generator function of a block."""
    source = Source()
    source.write(0, "def piece(room, slots):")
    source.write(1, "if False: yield")
    source.block(1, block)
    names = {"Failure": Failure, "held": held}
    exec("\n".join(source.rows), names)
    return names["piece"]

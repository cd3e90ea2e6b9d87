"""Programs of a book: what is one, where something else goes wrong first, and what is in a program."""

from stepwhere.errors import BadProgram
from stepwhere.forms import is_step, parts_of_step, program_of
from stepwhere.pieces import kinds_of, need_book

MOST_DEEP = 12
SLOT_KINDS = ("context", "token", "piece")


class ProgramCheck:
    """What was met of a program so far: it decides about the steps that are met behind it."""

    def __init__(self, book):
        variables, pieces = book
        self.variables = variables
        self.params = {piece[0]: kinds_of(piece) for piece in pieces}
        self.kinds = {}
        self.calls = 0

    def fault_in(self, program, deep):
        """The way to the first wrong step, or None; deep is how many steps are around the program."""
        for number, step in enumerate(program):
            if deep > MOST_DEEP or not self.takes(step):
                return (number,)
            fault = self.fault_in(program_of(step), deep + 1)
            if fault is not None:
                return (number, 0) + fault
        return None

    def takes(self, step):
        """Whether a step that is met now is right but for what is within it."""
        if not is_step(step) or not self.knows(step):
            return False
        if step[0] in ("step", "close"):
            self.calls += 1
        for slot, kind in self.slots_at(step):
            if self.kinds.setdefault(slot, kind) != kind:
                return False
        return True

    def knows(self, step):
        """Whether its variable and its piece are of the book, and it has as many args as the piece has params."""
        for part, kind in parts_of_step(step):
            if kind == "variable" and part not in self.variables:
                return False
            if kind == "name" and part not in self.params:
                return False
            if kind == "args" and len(part) != len(self.params[step[2]]):
                return False
        return True

    def slots_at(self, step):
        """The pairs of a slot and its kind in a step, in their order."""
        pairs = [(part, kind) for part, kind in parts_of_step(step) if kind in SLOT_KINDS]
        if step[0] == "make":
            pairs.extend(list(zip(step[3], self.params[step[2]])))
        return pairs


def checked(book, thing):
    """What there is to tell of a program of the book; what is none is refused."""
    check = ProgramCheck(need_book(book))
    if not isinstance(thing, tuple):
        raise BadProgram(())
    place = check.fault_in(thing, 0)
    if place is not None:
        raise BadProgram(place)
    return check


def need_program(book, thing):
    """The thing itself, which must be a program of the book."""
    checked(book, thing)
    return thing


def slots_in(book, program):
    """A dict from the slots of a program, ascending, to their kinds."""
    kinds = checked(book, program).kinds
    return {slot: kinds[slot] for slot in sorted(kinds)}


def calls_in(book, program):
    """How many times "step" and "close" stand in a program."""
    return checked(book, program).calls

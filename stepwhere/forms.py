"""The forms of names, numbers, statements and steps, each by itself."""

LETTERS = "abcdefghijklmnopqrstuvwxyz"
MOST_LETTERS = 8
MOST_NUMBER = 99
MOST_VALUE = 9999

# What stands behind the word of a statement, in this order; "context" and "token" are slots of that kind.
PARTS = {
    "set": ("variable", "source"),
    "hold": ("token", "variable", "source"),
    "reset": ("token",),
    "drop": ("variable",),
    "show": ("variable",),
    "copy": ("context",),
    "within": ("context", "block"),
    "if": ("variable", "integer", "block", "block"),
    "with": ("variable", "source", "block"),
    "guard": ("block", "block"),
    "loop": ("block",),
    "leave": (),
    "yield": (),
    "fail": (),
}

# The same of a step of a program; "piece" is a slot of that kind, "name" that of a piece of the book.
STEPS = {
    "set": ("variable", "value"),
    "hold": ("token", "variable", "value"),
    "reset": ("token",),
    "drop": ("variable",),
    "show": ("variable",),
    "copy": ("context",),
    "within": ("context", "block"),
    "guard": ("block",),
    "make": ("piece", "name", "args"),
    "step": ("piece",),
    "close": ("piece",),
}


def is_name(thing):
    """Whether thing is a string of 1 to 8 letters a to z."""
    if not isinstance(thing, str) or not 1 <= len(thing) <= MOST_LETTERS:
        return False
    return all([letter in LETTERS for letter in thing])


def are_names(thing):
    """Whether thing is a tuple of names."""
    return isinstance(thing, tuple) and all([is_name(part) for part in thing])


def is_integer(thing):
    """Whether thing is an integer; True and False are none."""
    return isinstance(thing, int) and not isinstance(thing, bool)


def is_number(thing, most):
    """Whether thing is an integer from 0 to most."""
    return is_integer(thing) and 0 <= thing <= most


def is_tuple(thing, count):
    """Whether thing is a tuple of that many items."""
    return isinstance(thing, tuple) and len(thing) == count


def are_different_names(things):
    """Whether each of the things is a name and none is there twice."""
    return all([is_name(thing) for thing in things]) and len(set(things)) == len(things)


def is_part(thing, kind):
    """Whether thing has the form of a part of that kind; of a block, that it is a tuple."""
    if kind == "block":
        return isinstance(thing, tuple)
    if kind == "args":
        return are_names(thing)
    if kind == "integer":
        return is_number(thing, MOST_NUMBER)
    if kind == "value":
        return is_number(thing, MOST_VALUE)
    if kind == "source" and is_number(thing, MOST_NUMBER):
        return True
    return is_name(thing)


def word_of(thing):
    """The word that thing, a tuple, begins with; None of what begins with none."""
    # What is no string may have an == or a hash that fails: it is not looked up.
    if isinstance(thing, tuple) and len(thing) > 0 and isinstance(thing[0], str):
        return thing[0]
    return None


def fits(thing, kinds):
    """Whether the parts of thing, behind its word, are as many as the kinds, and each is of its kind."""
    if len(thing) != 1 + len(kinds):
        return False
    return all([is_part(part, kind) for part, kind in zip(thing[1:], kinds)])


def has_form(thing):
    """Whether thing is a statement by its own form, whatever stands in its blocks."""
    word = word_of(thing)
    return word in PARTS and fits(thing, PARTS[word])


def is_step(thing):
    """Whether thing is a step by its own form, whatever stands in its program."""
    word = word_of(thing)
    return word in STEPS and fits(thing, STEPS[word])


def parts_of(statement):
    """The pairs of a part and its kind, of a statement with as many parts as its word asks for."""
    return list(zip(statement[1:], PARTS[statement[0]]))


def blocks_of(statement):
    """The blocks of what is a statement by its own form, in their order."""
    return [part for part in statement if isinstance(part, tuple)]


def parts_of_step(step):
    """The pairs of a part and its kind, of a step with as many parts as its word asks for."""
    return list(zip(step[1:], STEPS[step[0]]))


def program_of(step):
    """The program within what is a step by its own form, empty where there is none."""
    return step[-1] if STEPS[step[0]][-1] == "block" else ()

"""The forms of names, numbers and statements, each by itself."""

LETTERS = "abcdefghijklmnopqrstuvwxyz"
MOST_LETTERS = 8
MOST_NUMBER = 99

# What stands behind the word of a statement, in this order; "context" and "token" are slots of that kind.
PARTS = {
    "set": ("variable", "source"),
    "hold": ("token", "variable", "source"),
    "reset": ("token",),
    "drop": ("variable",),
    "show": ("variable",),
    "copy": ("context",),
    "within": ("context", "block"),
    "if": ("variable", "integer", "block", "block"),
    "with": ("variable", "source", "block"),
    "guard": ("block", "block"),
    "loop": ("block",),
    "leave": (),
    "yield": (),
    "fail": (),
}


def is_name(thing):
    """Whether thing is a string of 1 to 8 letters a to z."""
    if not isinstance(thing, str) or not 1 <= len(thing) <= MOST_LETTERS:
        return False
    return all([letter in LETTERS for letter in thing])


def is_number(thing, most):
    """Whether thing is an integer from 0 to most; True and False are none."""
    return isinstance(thing, int) and not isinstance(thing, bool) and 0 <= thing <= most


def is_tuple(thing, count):
    """Whether thing is a tuple of that many items."""
    return isinstance(thing, tuple) and len(thing) == count


def are_different_names(things):
    """Whether each of the things is a name and none is there twice."""
    return all([is_name(thing) for thing in things]) and len(set(things)) == len(things)


def is_part(thing, kind):
    """Whether thing has the form of a part of that kind; of a block, that it is a tuple."""
    if kind == "block":
        return isinstance(thing, tuple)
    if kind == "integer":
        return is_number(thing, MOST_NUMBER)
    if kind == "source" and is_number(thing, MOST_NUMBER):
        return True
    return is_name(thing)


def has_form(thing):
    """Whether thing is a statement by its own form, whatever stands in its blocks."""
    if not isinstance(thing, tuple) or len(thing) == 0:
        return False
    word = thing[0]
    # What is no string may have an == or a hash that fails: it is not looked up.
    if not isinstance(word, str) or word not in PARTS:
        return False
    if len(thing) != 1 + len(PARTS[word]):
        return False
    return all([is_part(part, kind) for part, kind in parts_of(thing)])


def parts_of(statement):
    """The pairs of a part and its kind, of a statement with as many parts as its word asks for."""
    return list(zip(statement[1:], PARTS[statement[0]]))


def blocks_of(statement):
    """The blocks of what is a statement by its own form, in their order."""
    return [part for part in statement if isinstance(part, tuple)]

"""Books of pieces: what is one, where something else goes wrong first, and what is in a piece."""

from stepwhere.errors import BadBook, BadQuestion
from stepwhere.forms import are_different_names, blocks_of, has_form, is_name, is_tuple, parts_of

MOST_PIECES = 6
MOST_STATEMENTS = 16
MOST_AROUND = 4
KINDS = ("context", "token")
MOST_VARS = 3
MOST_PARAMS = 2


class Check:
    """What was met of a piece so far: it decides about the statements that are met behind it."""

    def __init__(self, variables, params):
        self.variables = variables
        self.kinds = {slot: kind for slot, kind in params}
        self.met = 0

    def fault_in(self, block, way, around):
        """The way to the first wrong statement, or None; around are the words of those around the block."""
        for number, statement in enumerate(block):
            here = way + (number,)
            if not self.takes(statement, around):
                return here
            inside = around + (statement[0],)
            for at, inner in enumerate(blocks_of(statement)):
                fault = self.fault_in(inner, here + (at,), inside)
                if fault is not None:
                    return fault
        return None

    def takes(self, statement, around):
        """Whether a statement that is met now is right but for what is within it."""
        self.met += 1
        # Both limits come first: they end the walk through what is very long or very deep.
        if self.met > MOST_STATEMENTS or len(around) > MOST_AROUND:
            return False
        return has_form(statement) and self.knows(statement) and can_stand(statement, around)

    def knows(self, statement):
        """Whether its variables are those of the book, and its slot has been of no other kind."""
        for part, kind in parts_of(statement):
            if kind in KINDS and self.kinds.setdefault(part, kind) != kind:
                return False
            is_variable = kind in ("variable", "source") and isinstance(part, str)
            if is_variable and part not in self.variables:
                return False
        return True


def can_stand(statement, around):
    """Whether the statements around it leave it its place, and a loop has its yield."""
    word = statement[0]
    if word == "yield":
        return "within" not in around
    if word == "leave":
        return "loop" in around and "within" not in around
    if word == "loop":
        return has_yield(statement[1])
    return True


def has_yield(block):
    """Whether a yield is among the block's own statements."""
    for thing in block:
        if has_form(thing) and thing[0] == "yield":
            return True
    return False


def is_kind(thing):
    """Whether thing is one of the words for kinds of slots."""
    return isinstance(thing, str) and thing in KINDS


def are_params(thing):
    """Whether thing is a tuple of at most two pairs of a slot and its kind, the slots different names."""
    if not isinstance(thing, tuple) or len(thing) > MOST_PARAMS:
        return False
    if not all([is_tuple(param, 2) and is_kind(param[1]) for param in thing]):
        return False
    return are_different_names([slot for slot, kind in thing])


def is_triple(thing):
    """Whether thing is a piece but for what is in its block."""
    return is_tuple(thing, 3) and is_name(thing[0]) and are_params(thing[1]) and isinstance(thing[2], tuple)


def fault_of_pieces(variables, pieces):
    """The place of the first fault in the pieces, or None."""
    names = []
    for number, piece in enumerate(pieces):
        if not is_triple(piece) or piece[0] in names:
            return (number,)
        names.append(piece[0])
        way = Check(variables, piece[1]).fault_in(piece[2], (), ())
        if way is not None:
            return (number, way)
    return None


def fault_of(thing):
    """The place of the first fault of thing, or None if it is a book."""
    if not is_tuple(thing, 2) or not isinstance(thing[0], tuple) or not isinstance(thing[1], tuple):
        return ()
    variables, pieces = thing
    if len(pieces) > MOST_PIECES:
        return ()
    if not 1 <= len(variables) <= MOST_VARS or not are_different_names(variables):
        return ("vars",)
    return fault_of_pieces(variables, pieces)


def need_book(thing):
    """The thing itself, which must be a book."""
    place = fault_of(thing)
    if place is not None:
        raise BadBook(place)
    return thing


def is_book(thing):
    """Whether thing is a book."""
    return fault_of(thing) is None


def find_piece(book, name):
    """The piece that is called name, of what is known to be a book, or None."""
    # What is no string may have an == that fails: it is not compared.
    if isinstance(name, str):
        for piece in book[1]:
            if piece[0] == name:
                return piece
    return None


def piece_called(book, name):
    """The piece that is called name, of what is known to be a book."""
    piece = find_piece(book, name)
    if piece is None:
        raise BadQuestion("no piece of the book has this name")
    return piece


def piece_of(book, name):
    """The piece of the book that is called name."""
    return piece_called(need_book(book), name)


def kinds_of(piece):
    """The kinds of the params of a piece, in their order."""
    return [kind for slot, kind in piece[1]]


def statements_in(block, way):
    """The pairs (WAY, STATEMENT) of a block to which way leads, as they are met."""
    met = []
    for number, statement in enumerate(block):
        here = way + (number,)
        met.append((here, statement))
        for at, inner in enumerate(blocks_of(statement)):
            met.extend(statements_in(inner, here + (at,)))
    return met


def statements_of(book, name):
    """The list of pairs (WAY, STATEMENT) of a piece, as they are met."""
    return statements_in(piece_of(book, name)[2], ())


def slots_of(book, name):
    """A dict from the slots of a piece, ascending, to their kinds."""
    _, params, block = piece_of(book, name)
    kinds = {slot: kind for slot, kind in params}
    for way, statement in statements_in(block, ()):
        for part, kind in parts_of(statement):
            if kind in KINDS:
                kinds[part] = kind
    return {slot: kinds[slot] for slot in sorted(kinds)}


def numbers_of(book, name):
    """The tuple of the integers in the statements of a piece, ascending, each once."""
    numbers = []
    for way, statement in statements_of(book, name):
        numbers.extend([part for part in statement if isinstance(part, int)])
    return tuple(sorted(set(numbers)))


def count_by(book, name):
    """A dict from the words of the statements of a piece, ascending, to how many there are."""
    words = [statement[0] for way, statement in statements_of(book, name)]
    return {word: words.count(word) for word in sorted(set(words))}

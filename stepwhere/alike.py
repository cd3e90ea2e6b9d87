"""Whether any program can tell two pieces of a book apart, and which one."""

from stepwhere.compare import are_alike_pieces, parting_of
from stepwhere.errors import BadQuestion, TooGreat
from stepwhere.pieces import kinds_of, need_book, piece_called, statements_in
from stepwhere.programs import calls_in

MOST_ASKED = 8
MOST_VARS_ASKED = 2


def pieces_asked(book, names):
    """The pieces of the book that have these names."""
    need_book(book)
    return [piece_called(book, name) for name in names]


def comparable_pieces(book, one, other):
    """The two pieces with these names, which must be comparable."""
    pieces = pieces_asked(book, (one, other))
    if kinds_of(pieces[0]) != kinds_of(pieces[1]):
        raise BadQuestion("the two pieces are not comparable")
    return pieces


def need_bounds(book, pieces):
    """Refuses what is asked about these pieces if the book, or the first of them that has, is beyond the bounds."""
    if len(book[0]) > MOST_VARS_ASKED:
        raise TooGreat(("vars",))
    names = [piece[0] for piece in book[1]]
    for piece in pieces:
        if len(statements_in(piece[2], ())) > MOST_ASKED:
            raise TooGreat((names.index(piece[0]),))


def are_comparable(book, one, other):
    """Whether the params of two pieces have the same kinds in the same order."""
    piece, second = pieces_asked(book, (one, other))
    return kinds_of(piece) == kinds_of(second)


def are_alike(book, one, other):
    """Whether the log of each program is the same with the one piece and with the other."""
    return parting(book, one, other) is None


def parting(book, one, other):
    """A program with one "make", of the one, and with as few turns as any that tells the two apart, or None."""
    pieces = comparable_pieces(book, one, other)
    need_bounds(book, pieces)
    return parting_of(book[0], pieces[0], pieces[1])


def turns_to_part(book, one, other):
    """How many turns a parting of the two has, or None of alike ones."""
    program = parting(book, one, other)
    return None if program is None else calls_in(book, program)


def sorted_by(pieces, are_same):
    """The lists of the names of pieces, each in the first one whose first piece is comparable and the same."""
    found = []
    for piece in pieces:
        row = 0
        while row < len(found) and not is_at_home(found[row][0], piece, are_same):
            row += 1
        if row == len(found):
            found.append([])
        found[row].append(piece)
    return [[piece[0] for piece in row] for row in found]


def is_at_home(first, piece, are_same):
    """Whether the piece belongs where first is the first one."""
    return kinds_of(first) == kinds_of(piece) and are_same(first, piece)


def classes(book):
    """The lists of the names of pieces that are comparable and alike, in the order of the book."""
    need_bounds(need_book(book), book[1])
    return sorted_by(book[1], lambda piece, other: are_alike_pieces(book[0], piece, other))

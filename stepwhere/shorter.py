"""Pieces that come of others: statements left out, exchanged, or put in the place of one."""

from stepwhere.alike import need_bounds
from stepwhere.compare import are_alike_pieces
from stepwhere.errors import BadQuestion
from stepwhere.forms import blocks_of, is_integer
from stepwhere.pieces import is_book, need_book, piece_of, slots_of, statements_in


def ways_of(piece):
    """The ways to the statements of a piece, as they are met."""
    return [way for way, statement in statements_in(piece[2], ())]


def need_way(piece, way):
    """Refuses what is no way to a statement of the piece."""
    # True and 1 are equal: the numbers are looked at ahead of the comparison.
    if not isinstance(way, tuple) or not all([is_integer(number) for number in way]) or way not in ways_of(piece):
        raise BadQuestion("this leads to no statement of the piece")


def next_way(way):
    """The way to what is behind a statement in its block."""
    return way[:-1] + (way[-1] + 1,)


def has_next(piece, way):
    """Whether there is a statement behind that one in its block."""
    return next_way(way) in ways_of(piece)


def with_rows(block, way, change):
    """The block in which change(BLOCK, NUMBER) stands for the block of the statement to which way leads."""
    at, inner = way[0], way[1:]
    if not inner:
        return change(block, at)
    number = inner[0]
    statement = list(block[at])
    # The blocks of a statement are its last parts.
    place = len(statement) - len(blocks_of(block[at])) + number
    statement[place] = with_rows(statement[place], inner[1:], change)
    return block[:at] + (tuple(statement),) + block[at + 1:]


def changed(piece, way, change):
    """The piece with its block changed so."""
    name, params, block = piece
    return (name, params, with_rows(block, way, change))


def replaced(piece, way, statements):
    """The piece with these statements in the place of one."""
    return changed(piece, way, lambda block, at: block[:at] + statements + block[at + 1:])


def swapped(piece, way):
    """The piece with a statement and the next one exchanged."""
    return changed(piece, way, lambda block, at: block[:at] + (block[at + 1], block[at]) + block[at + 2:])


def in_place(book, piece):
    """The book that has this piece in the place of the one with its name."""
    return (book[0], tuple([piece if other[0] == piece[0] else other for other in book[1]]))


def need_piece(book, piece):
    """The piece itself, which must be one in the place of the one of the book with its name."""
    need_book(in_place(book, piece))
    return piece


def without(book, name, way):
    """The piece without a statement."""
    piece = piece_of(book, name)
    need_way(piece, way)
    return need_piece(book, replaced(piece, way, ()))


def exchanged(book, name, way):
    """The piece with a statement and the next one in its block exchanged."""
    piece = piece_of(book, name)
    need_way(piece, way)
    if not has_next(piece, way):
        raise BadQuestion("nothing is behind this statement in its block")
    return need_piece(book, swapped(piece, way))


def is_same(variables, piece, other):
    """Whether other, made of the piece, is a piece and alike to it."""
    return is_book((variables, (other,))) and are_alike_pieces(variables, piece, other)


def asked_piece(book, name):
    """The piece that is called name, which must be within the bounds of questions."""
    piece = piece_of(book, name)
    need_bounds(book, [piece])
    return piece


def needless(book, name):
    """The ways to the statements that can be left out, each by itself, as they are met."""
    piece = asked_piece(book, name)
    return [way for way in ways_of(piece) if is_same(book[0], piece, replaced(piece, way, ()))]


def free(book, name):
    """The ways to the statements that can be exchanged with the next one, as they are met."""
    piece = asked_piece(book, name)
    ways = [way for way in ways_of(piece) if has_next(piece, way)]
    return [way for way in ways if is_same(book[0], piece, swapped(piece, way))]


def shortened(variables, piece):
    """The piece without its first needless statement, or None if it has none."""
    for way in ways_of(piece):
        shorter = replaced(piece, way, ())
        if is_same(variables, piece, shorter):
            return shorter
    return None


def lean(book, name):
    """The piece without its first needless statement, and so on until it has none."""
    piece = asked_piece(book, name)
    while True:
        shorter = shortened(book[0], piece)
        if shorter is None:
            return piece
        piece = shorter


def words_around(block, way):
    """The words of the statements around the one to which way leads."""
    words = []
    for deep in range(1, len(way), 2):
        statement = block[way[deep - 1]]
        words.append(statement[0])
        block = blocks_of(statement)[way[deep]]
    return words


def put_in(book, name, way, other):
    """The piece in which the statements of the other one stand in the place of a statement."""
    piece = piece_of(book, name)
    need_way(piece, way)
    _, params, statements = piece_of(book, other)
    if params:
        raise BadQuestion("the piece that is put in has params")
    slots = slots_of(book, name)
    if any([slot in slots for slot in slots_of(book, other)]):
        raise BadQuestion("the two pieces have a slot of the same name")
    around = words_around(piece[2], way)
    if "loop" in around or "within" in around:
        raise BadQuestion("the statement is within a loop or a within")
    return need_piece(book, replaced(piece, way, statements))

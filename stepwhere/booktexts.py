"""Books as texts."""

from stepwhere.forms import PARTS
from stepwhere.pieces import KINDS, need_book
from stepwhere.reader import Reader
from stepwhere.words import words_of_block

MOST_DIGITS = 2


def words_of_piece(piece):
    """The words of a piece, from "piece" on."""
    name, params, block = piece
    words = ["piece", name]
    for slot, kind in params:
        words.extend([slot, kind])
    return words + ["{"] + words_of_block(block, dict(PARTS)) + ["}"]


def book_text(book):
    """The book as a text, with one space between two words."""
    variables, pieces = need_book(book)
    words = ["vars", *variables]
    for piece in pieces:
        words.append(";")
        words.extend(words_of_piece(piece))
    return " ".join(words)


def take_params(reader):
    """The params that come next, however many."""
    params = []
    while reader.peek() != "{":
        slot = reader.take_name()
        kind = reader.take(reader.peek() in KINDS)
        params.append((slot, kind))
    return tuple(params)


def take_piece(reader):
    """The piece that comes next, from "piece" on."""
    reader.take_word("piece")
    name = reader.take_name()
    params = take_params(reader)
    return (name, params, reader.take_block())


def take_book(reader):
    """All that a text tells if it has the form of one of a book; whether it is a book is not asked."""
    reader.take_word("vars")
    variables = reader.take_names()
    pieces = []
    while reader.peek() != "":
        reader.take_word(";")
        pieces.append(take_piece(reader))
    return (variables, tuple(pieces))


def read_book(text):
    """The book that a text tells."""
    return need_book(take_book(Reader(text, dict(PARTS), MOST_DIGITS)))

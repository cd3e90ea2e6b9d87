"""Programs as texts."""

from stepwhere.forms import STEPS
from stepwhere.pieces import need_book
from stepwhere.programs import need_program
from stepwhere.reader import Reader
from stepwhere.words import words_of_block

MOST_DIGITS = 4


def program_text(book, program):
    """The program as a text, with one space between two words."""
    return " ".join(words_of_block(need_program(book, program), dict(STEPS)))


def take_program(reader):
    """All that the rest of a text tells if it has the form of a program; whether it is one is not asked."""
    program = reader.take_rows()
    reader.take_end()
    return program


def read_program(book, text):
    """The program of the book that a text tells."""
    need_book(book)
    return need_program(book, take_program(Reader(text, dict(STEPS), MOST_DIGITS)))

"""A desk: it answers lines about a shelf, each with one line."""

from stepwhere.booktexts import book_text, read_book, take_piece, words_of_piece
from stepwhere.errors import BadBook, BadProgram, BadQuestion, BadText, Missing, TooGreat
from stepwhere.forms import PARTS, STEPS
from stepwhere.pieces import statements_of
from stepwhere.play import play
from stepwhere.programtexts import program_text, take_program
from stepwhere.reach import reached
from stepwhere.reader import Reader
from stepwhere.shelf import Shelf

NUMBER_DIGITS = 2
VALUE_DIGITS = 4
NOTHING = "none"
DONE = "done"


def yes_or_no(is_so):
    """The word for what is so or not."""
    return "yes" if is_so else "no"


def way_text(way):
    """A way, or a number, as a word."""
    return ".".join(map(str, way)) if isinstance(way, tuple) else str(way)


def refusal(words, parts):
    """The line for a refusal with the parts of its place."""
    return " ".join([words] + [way_text(part) for part in parts])


def event_text(event):
    """The parts of an event."""
    return " ".join(map(str, event))


def say_forget(shelf, name):
    shelf.forget(name)
    return DONE


def say_book(shelf):
    return book_text(shelf.book())


def say_alike(shelf, one, other):
    return yes_or_no(shelf.alike(one, other))


def say_parting(shelf, one, other):
    program = shelf.parting(one, other)
    return NOTHING if program is None else program_text(shelf.book(), program)


def say_ends(shelf, name):
    return " ".join(list(shelf.ends(name)))


def say_unreached(shelf, name):
    begun = reached(shelf.book(), shelf[name][0])
    ways = [way for way, statement in statements_of(shelf.book(), name) if way not in begun]
    return " ".join([way_text(way) for way in ways]) or NOTHING


def say_quiet(shelf, name):
    return yes_or_no(shelf.quiet(name))


def say_lean(shelf, name):
    return " ".join(words_of_piece(shelf.lean(name)))


def say_classes(shelf):
    return " ; ".join([" ".join(row) for row in shelf.classes()]) or NOTHING


# "piece" and "play" are none of these: what stands behind them is more than names.
ANSWERS = {
    "forget": say_forget,
    "book": say_book,
    "alike": say_alike,
    "parting": say_parting,
    "ends": say_ends,
    "unreached": say_unreached,
    "quiet": say_quiet,
    "lean": say_lean,
    "classes": say_classes,
}

# How many names stand behind the word of a line.
NAMES_BEHIND = {
    "forget": 1,
    "book": 0,
    "alike": 2,
    "parting": 2,
    "ends": 1,
    "unreached": 1,
    "quiet": 1,
    "lean": 1,
    "classes": 0,
}


class Desk:
    """A desk with the shelf of the book that a text tells."""

    def __init__(self, text):
        self.shelf = Shelf(read_book(text))

    def say(self, line):
        """The answer to a line, or why there is none."""
        try:
            return self._answer(Reader(line, dict(PARTS), NUMBER_DIGITS))
        except BadText as wrong_line:
            return refusal("bad line", [wrong_line.place] if wrong_line.place >= 0 else [])
        except Missing as missing:
            return refusal("no piece", [missing.name])
        except BadQuestion:
            return "other params"
        except BadBook as wrong_book:
            return refusal("bad book", wrong_book.place)
        except BadProgram as wrong_program:
            return refusal("bad program", [wrong_program.place])
        except TooGreat as too_great:
            return refusal("too great", too_great.place)

    def _answer(self, reader):
        """What is said of a line: nothing is done before the whole line is read."""
        word = reader.peek()
        if word == "piece":
            return self._put(reader)
        if word == "play":
            return self._play(reader)
        reader.take(word in ANSWERS)
        names = [reader.take_name() for _ in range(NAMES_BEHIND[word])]
        reader.take_end()
        answer = ANSWERS[word]
        return answer(self.shelf, *names)

    def _put(self, reader):
        piece = take_piece(reader)
        reader.take_end()
        self.shelf[piece[0]] = piece
        return DONE

    def _play(self, reader):
        reader.take_word("play")
        reader.forms = dict(STEPS)
        reader.digits = VALUE_DIGITS
        log = play(self.shelf.book(), take_program(reader))
        return " ; ".join([event_text(event) for event in log]) or NOTHING

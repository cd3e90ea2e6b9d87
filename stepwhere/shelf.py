"""A shelf: a book that changes piece by piece, and what was found about its pieces."""

from stepwhere.alike import need_bounds, sorted_by
from stepwhere.compare import are_alike_pieces, parting_of
from stepwhere.errors import BadQuestion, Missing
from stepwhere.forms import is_tuple
from stepwhere.pieces import find_piece, kinds_of, need_book
from stepwhere.reach import ends, is_quiet
from stepwhere.shorter import lean


def making(program, name):
    """The program with that piece in the place of the one that it makes."""
    steps = []
    for step in program:
        steps.append(("make", step[1], name, step[3]) if step[0] == "make" else step)
    return tuple(steps)


def is_own_name(name, thing):
    """Whether name is the one that thing, a tuple of three, begins with."""
    # What is no string may have an == that fails: it is not compared.
    return isinstance(name, str) and isinstance(thing[0], str) and name == thing[0]


def book_with(book, piece):
    """The book that has this in the place of the piece with its name, or behind all."""
    variables, pieces = book
    if find_piece(book, piece[0]) is None:
        return (variables, pieces + (piece,))
    return (variables, tuple([piece if other[0] == piece[0] else other for other in pieces]))


class Trial:
    """For one with statement: behind its block the shelf is as it was ahead of it."""

    def __init__(self, shelf):
        self.shelf = shelf
        self.elder_book = None
        self.elder_found = None

    def __enter__(self):
        self.elder_book, self.elder_found = self.shelf.keep()
        return self.shelf

    def __exit__(self, kind, value, trace):
        self.shelf._book = self.elder_book
        self.shelf._found = self.elder_found


class Shelf:
    """A book within the bounds of questions, and the partings that were found of pairs of its pieces."""

    def __init__(self, book):
        need_book(book)
        need_bounds(book, book[1])
        self._book = book
        self._found = {}
        self._walks = 0

    def __getitem__(self, name):
        piece = find_piece(self._book, name)
        if piece is None:
            raise Missing(name)
        return piece

    def __setitem__(self, name, piece):
        if not is_tuple(piece, 3) or not is_own_name(name, piece):
            raise BadQuestion("what is put is no piece of this name")
        book = book_with(self._book, piece)
        need_book(book)
        need_bounds(book, book[1])
        if piece != find_piece(self._book, name):
            self._change(name, book)

    def __contains__(self, name):
        return find_piece(self._book, name) is not None

    def __iter__(self):
        raise TypeError("a shelf is not iterated over: take its names()")

    def __len__(self):
        return len(self._book[1])

    def __eq__(self, other):
        return isinstance(other, Shelf) and self._book == other._book

    def forget(self, name):
        """The piece goes."""
        gone = self._piece(name)
        variables, pieces = self._book
        self._change(name, (variables, tuple([piece for piece in pieces if piece[0] != gone[0]])))

    def names(self):
        """The names of the pieces, in the order of the book."""
        return tuple([piece[0] for piece in self._book[1]])

    def book(self):
        """The book as it is now."""
        return self._book

    def alike(self, one, other):
        """Whether no program can tell two pieces apart."""
        return self.parting(one, other) is None

    def parting(self, one, other):
        """A program that tells two pieces apart with as few turns as any, or None."""
        piece, second = self._piece(one), self._piece(other)
        if kinds_of(piece) != kinds_of(second):
            raise BadQuestion("the two pieces are not comparable")
        return None if one == other else self._walk(piece, second)

    def classes(self):
        """The lists of the names of pieces that are comparable and alike."""
        return sorted_by(self._book[1], lambda piece, other: self._walk(piece, other) is None)

    def walked(self):
        """How many pairs were walked so far."""
        return self._walks

    def ends(self, name):
        """A dict from the ENDs that can come of a piece to programs."""
        self._piece(name)
        return ends(self._book, name)

    def quiet(self, name):
        """Whether no turn of a piece changes anything that a program can see."""
        self._piece(name)
        return is_quiet(self._book, name)

    def lean(self, name):
        """The piece without what can be left out."""
        self._piece(name)
        return lean(self._book, name)

    def trial(self):
        """An object for one with statement, behind whose block the shelf is as it was ahead of it."""
        return Trial(self)

    def covered_by(self, other):
        """Whether the other shelf has the same variables, and for each piece of this one an alike one."""
        variables, pieces = self._book
        others = other.book()
        return variables == others[0] and all([is_among(variables, piece, others[1]) for piece in pieces])

    def keep(self):
        """The book, and what was found of it; from now on the shelf has a copy of this."""
        elder = (self._book, self._found)
        self._found = {pair: self._found[pair] for pair in self._found}
        return elder

    def _piece(self, name):
        return self[name]

    def _change(self, name, book):
        """The book changes in the piece called name alone: what was found of others stays."""
        self._book = book
        self._found = {pair: self._found[pair] for pair in self._found if name not in pair}

    def _walk(self, piece, other):
        """The parting of two different pieces that are comparable; it is looked for once."""
        pair, back = (piece[0], other[0]), (other[0], piece[0])
        if back in self._found:
            program = self._found[back]
            return None if program is None else making(program, piece[0])
        if pair not in self._found:
            self._walks += 1
            self._found[pair] = parting_of(self._book[0], piece, other)
        return self._found[pair]


def is_among(variables, piece, others):
    """Whether one of the others is comparable and alike to the piece."""
    comparable = [other for other in others if kinds_of(other) == kinds_of(piece)]
    return any([are_alike_pieces(variables, piece, other) for other in comparable])

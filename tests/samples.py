"""Books and odd values that several tests share."""

from stepwhere.booktexts import read_book
from stepwhere.errors import BadBook
from stepwhere.pieces import is_book, need_book
from stepwhere.rooms import Room

VARS = ("x", "y", "z")
HUGE = int("9" * 4000)

# One statement of each form, as it can stand in a piece, "yield" and "leave" in the loop. The loop has two
# yields, so that one of them can be exchanged for something else.
FORMS = (
    ("set", "x", 5),
    ("hold", "t", "x", "y"),
    ("reset", "t"),
    ("drop", "x"),
    ("show", "x"),
    ("copy", "c"),
    ("within", "c", (("fail",),)),
    ("if", "x", 7, (("fail",),), (("fail",), ("show", "z"))),
    ("with", "x", 5, (("fail",),)),
    ("guard", (("fail",),), (("show", "y"),)),
    ("loop", (("yield",), ("leave",), ("yield",))),
    ("fail",),
)


def book_of(*statements, params=(), variables=VARS):
    """A book of one piece "p" with these statements."""
    return (variables, (("p", params, tuple(statements)),))


def book_with(*pieces):
    return (("x",), pieces)


def piece(name, *statements):
    return (name, (), tuple(statements))


def around(statement, times):
    """The statement within that many guards."""
    for _ in range(times):
        statement = ("guard", (statement,), ())
    return statement


def place_of(thing):
    """The place of BadBook, or None of a book; need_book and is_book must agree."""
    try:
        told = need_book(thing)
    except BadBook as error:
        assert is_book(thing) is False
        return error.place
    assert told is thing
    assert is_book(thing) is True
    return None


class Hostile:
    """An object that can be asked nothing."""

    def refuse(self, *told):
        raise ZeroDivisionError("asked")

    __eq__ = __ne__ = __hash__ = __len__ = __iter__ = __bool__ = refuse
    __getitem__ = __contains__ = __repr__ = __str__ = __index__ = __int__ = refuse
    __lt__ = __le__ = __gt__ = __ge__ = __call__ = refuse


def deep_tuple(times):
    thing = ()
    for _ in range(times):
        thing = (thing,)
    return thing


def deep_statement(times):
    thing = ("fail",)
    for _ in range(times):
        thing = ("guard", (thing,), ())
    return thing


def doubled_statement(times):
    """A statement whose two blocks are one and the same: walked whole it has no end."""
    thing = ("fail",)
    for _ in range(times):
        thing = ("guard", (thing, thing), (thing, thing))
    return thing


def doubled_tuple(times):
    thing = ()
    for _ in range(times):
        thing = (thing, thing)
    return thing


def self_holding_list():
    thing = []
    thing.append(thing)
    return thing


def odd_values():
    """Values that stand rightly at no place of a book, tuples left aside."""
    return [
        None, True, False, Ellipsis, NotImplemented, -1, 100, HUGE, -HUGE, 1j,
        "", "X", "xX", "x1", "x_", " x", "x ", "x\n", "letterstoo", "a" * 100000,
        b"", b"x", bytearray(b"x"), [], ["x"], [["x"]], self_holding_list(),
        {}, {"x": 1}, {"x": {}}, set(), {"x"}, frozenset(), range(3), iter(()), object(), Hostile(), Hostile,
        len, lambda: None, (item for item in ()),
    ]


def odd_tuples():
    """Tuples that stand rightly at no place of a book but, the first, as a block or as params."""
    return [
        (), (None,), (Hostile(), Hostile()), ("x", Hostile()), (Hostile(), (), ()), ((Hostile(), "token"),),
        (("x", Hostile()),), ((Hostile(),),), ("nothing",), (("nothing",),),
        deep_tuple(20000), (deep_statement(20000),), (doubled_statement(200),), doubled_tuple(200),
        (("fail",),) * 50000, ("x",) * 50000, (None,) * 50000, (Hostile(),) * 50000,
    ]


def piece_room(rows, params=""):
    """A room of a book with the variables x, y, z and a piece "p" of these rows, told as text."""
    return Room(read_book("vars x y z; piece p " + params + " { " + rows + " }"))

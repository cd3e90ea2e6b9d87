"""Rooms and pieces against Python's own generators and context variables, [14]: the same scripts, the same logs."""

import contextvars
import gc
import random
import unittest
import unittest.mock

from python_pieces import Failure, PythonRoom
from stepwhere.booktexts import book_text, read_book
from stepwhere.contexts import Context
from stepwhere.errors import Fails
from stepwhere.pieces import is_book
from stepwhere.rooms import Room

SIMPLE = ("set", "hold", "reset", "drop", "show", "copy", "fail", "leave") + ("yield",) * 6
AROUND = ("within", "if", "with", "with", "with", "guard", "guard", "guard", "loop", "loop")
VARS = ("x", "y")


class Author:
    """Writes books and scripts by chance, the same ones at each run."""

    def __init__(self, seed):
        self.chance = random.Random(seed)

    def pick(self, things):
        return self.chance.choice(things)

    def source(self):
        return self.pick((0, 1, 2, 2, "x", "y"))

    def block(self, deep, words):
        return tuple([self.statement(deep, words) for _ in range(self.chance.randint(0, 3))])

    def statement(self, deep, words, word=None):
        word = word or self.pick(words + AROUND if deep < 4 else words)
        if word in ("set", "hold", "with"):
            parts = (("s",) if word == "hold" and self.chance.random() < 0.5 else ("t",) if word == "hold" else ())
            parts += (self.pick(VARS), self.source())
            return (word, *parts, self.block(deep + 1, words)) if word == "with" else (word, *parts)
        if word in ("drop", "show"):
            return (word, self.pick(VARS))
        if word in ("reset", "copy"):
            return (word, self.pick(("s", "t") if word == "reset" else ("c", "d")))
        if word == "within":
            inner = tuple([one for one in words if one not in ("yield", "leave")])
            return (word, self.pick(("c", "d")), self.block(deep + 1, inner))
        if word == "if":
            blocks = (self.block(deep + 1, words), self.block(deep + 1, words))
            return (word, self.pick(VARS), self.pick((0, 1, 2)), *blocks)
        if word == "guard":
            return (word, self.block(deep + 1, words), self.block(deep + 1, words))
        if word == "loop":
            block = self.block(deep + 1, words)
            at = self.chance.randint(0, len(block))
            return (word, block[:at] + (("yield",),) + block[at:])
        return (word,)

    def piece(self, name):
        while True:
            params = self.pick(((), (("c", "context"),), (("t", "token"),), (("d", "context"), ("s", "token"))))
            block = (self.statement(0, SIMPLE, self.pick(AROUND)),) + self.block(0, SIMPLE)
            if is_book((VARS, ((name, params, block),))):
                return (name, params, block)

    def book(self):
        return (VARS, (self.piece("p"), self.piece("q")))

    def script(self, book, many):
        """A script that begins with some values and pieces."""
        begin = [(word, "m", token, "c", variable, 2) for variable, token in zip(VARS, "st")
                 for word in ("put", "hold", "copy")]
        orders = [order for order in self.orders(book, 0, 40) if order[0] == "make"]
        return begin + orders[:2] + self.orders(book, 0, many)

    def orders(self, book, deep, many):
        """Orders for a room: the names that they use may hold nothing, then an order is not carried out."""
        orders = []
        for _ in range(many):
            word = self.pick(("step",) * 4 + ("close",) * 2 + ("make",) * 2 + ("run",) * 4 * (deep < 3)
                             + self.pick((("put", "hold", "reset", "show"), ("drop", "copy"), ())))
            if word == "run":
                orders.append((word, self.pick(("c", "d", "e")), self.orders(book, deep + 1, self.chance.randint(1, 4))))
            elif word == "make":
                name, params, _ = self.pick(book[1])
                args = [self.pick(("c", "d", "e") if kind == "context" else ("s", "t")) for slot, kind in params]
                orders.append((word, self.pick("mn"), name, args))
            else:
                orders.append((word, self.pick("mn"), self.pick("st"), self.pick("cd"), self.pick(VARS),
                               self.chance.randint(0, 3)))
        return orders


class Player:
    """Carries out the orders of a script in a room of either kind, and writes down how each ends."""

    def __init__(self, room, failure, pairs):
        self.room = room
        self.failure = failure
        self.pairs = pairs
        self.held = {"c": room.copy(), "d": room.copy(), "e": room.copy()}
        self.ends = []

    def play(self, orders):
        for order in orders:
            try:
                end = self.carry_out(*order)
            except self.failure as failure:
                end = getattr(failure, "word", failure.args[0])
            self.ends.append((order[0], end if isinstance(end, str) else None, self.pairs(self.room)))

    def carry_out(self, word, *parts):
        if word == "run":
            return self.room.run(self.held[parts[0]], self.play, parts[1])
        if word == "make":
            self.held[parts[0]] = self.room.make(parts[1], *[self.held.get(slot) for slot in parts[2]])
            return "made"
        piece, token, context, variable, value = parts
        if word in ("step", "close") and piece in self.held:
            end = getattr(self.held[piece], word)()
            return end + str(self.held[piece].is_over)
        if word == "reset" and token in self.held:
            return self.room.reset(self.held[token])
        if word == "hold":
            self.held[token] = self.room.hold(variable, value)
        if word == "copy":
            self.held[context] = self.room.copy()
        if word == "put":
            return self.room.put(variable, value)
        if word in ("drop", "show"):
            return getattr(self.room, word)(variable)
        return None


def played_here(book, orders):
    room = Room(book)
    player = Player(room, Fails, lambda one: one.now.pairs())
    player.play(orders)
    assert [player.held[slot].is_busy for slot in "cde"] == [False] * 3
    return player.ends, room.log(), [player.held[slot].pairs() for slot in "cde"]


def played_in_python(book, orders):
    room = PythonRoom(book)

    def begin():
        player = Player(room, Failure, PythonRoom.pairs)
        player.play(orders)
        return player.ends, room.log(), [player.held[slot].run(room.pairs) for slot in "cde"]
    return contextvars.Context().run(begin)


class TestAgainstPython(unittest.TestCase):

    def setUp(self):
        # Python tells of each generator that will not be closed when a room of its own is thrown away.
        silent = unittest.mock.patch("sys.unraisablehook", lambda told: None)
        silent.start()
        self.addCleanup(silent.stop)
        self.addCleanup(gc.collect)

    def test_scripts_written_by_chance(self):
        words = {}
        for seed in range(1500):
            author = Author(seed)
            book = author.book()
            orders = author.script(book, 25)
            here, python = played_here(book, orders), played_in_python(book, orders)
            self.assertEqual(here, python, (seed, book_text(book), orders))
            for word, end, pairs in here[0]:
                words[word, end] = words.get((word, end), 0) + 1
        # The scripts are of use only if they come to each way in which a turn can end.
        for end in ("yieldedFalse", "endedTrue", "unset", "empty", "used", "elsewhere", "entered", "own", "over"):
            self.assertGreater(words.get(("step", end), 0), 0, end)
        for end in ("closedTrue", "endedTrue", "elsewhere", "ignored", "own"):
            self.assertGreater(words.get(("close", end), 0), 0, end)

    def test_books_written_by_chance_are_read_as_they_are_written(self):
        for seed in range(500):
            book = Author(seed).book()
            self.assertEqual(read_book(book_text(book)), book)

    def test_the_examples(self):
        for text in ("vars x y; piece p { with x 1 { yield } }",
                     "vars x y; piece p { guard { with x 1 { yield } } { show x } ; yield }"):
            book = read_book(text)
            for turn in ("step", "close"):
                turns = [(turn, "m", "s", "c", "x", 0)]
                orders = [("make", "m", "p", []), ("step", "m", "s", "c", "x", 0),
                          ("run", "c", [("put", "m", "s", "c", "x", 5)] + turns), *turns, *turns]
                self.assertEqual(played_here(book, orders), played_in_python(book, orders))

    def test_two_contexts_with_the_same_values_are_two(self):
        self.assertIsNot(Context(), Context())


if __name__ == "__main__":
    unittest.main()

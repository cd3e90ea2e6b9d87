"""Drawn pieces: whether two are alike, [21], and what parts them, [22], compared with searches and plays of their own."""

import random
import unittest

from drawn import Drawer, renamed
from own_player import OwnPlayer
from own_search import turns_that_part
from stepwhere.alike import are_alike, classes, parting, turns_to_part
from stepwhere.booktexts import book_text
from stepwhere.play import play, play_with
from stepwhere.programs import calls_in
from stepwhere.programtexts import program_text

# Variables, params, how many turns the own search goes through, how many pairs are drawn.
SHAPES = (
    (("x",), (), 3, 8),
    (("x", "y"), (), 2, 8),
    (("x",), (("c", "context"),), 2, 6),
    (("x",), (("t", "token"),), 2, 3),
    (("x",), (("c", "context"), ("t", "token")), 1, 8),
    (("x",), (("t", "token"), ("c", "context")), 1, 4),
    (("x",), (("c", "context"), ("d", "context")), 1, 8),
    (("x",), (("s", "token"), ("t", "token")), 1, 8),
)


def drawn_pair(seed):
    """A drawer and a book of two comparable pieces, p and q, which are not far from one another."""
    drawer = Drawer(seed, variables=random.Random(seed).choice((("x",), ("x", "y"))), most=random.Random(-seed).choice((4, 6, 8)))
    piece = drawer.piece("p")
    other = drawer.near(piece, "q")
    for _ in range(drawer.pick((0, 0, 1, 2))):
        other = drawer.near(other, "q")
    return drawer, (drawer.variables, (piece, other))


class TestWithSearch(unittest.TestCase):

    def test_what_the_own_search_parts_is_told_apart_by_no_more_turns(self):
        seen = {}
        for at, (variables, params, many, pairs) in enumerate(SHAPES):
            for seed in range(pairs):
                drawer = Drawer(1000 * at + seed, variables, most=5, numbers=(1,))
                piece = drawer.piece("p", params)
                other = drawer.near(drawer.near(piece, "q"), "q")
                book = (variables, (piece, other))
                fewest = turns_that_part(book, (1,), params, many)
                told = turns_to_part(book, "p", "q")
                seen[fewest] = seen.get(fewest, 0) + 1
                if fewest is not None:
                    self.assertIsNotNone(told, book_text(book))
                    self.assertLessEqual(told, fewest, book_text(book))
                elif told is not None:
                    self.assertGreaterEqual(told, 1)
        self.assertGreater(seen[1], 5)
        self.assertGreater(seen[None], 5)


class TestWithPlays(unittest.TestCase):

    def test_partings_are_played_otherwise_and_alike_ones_are_not(self):
        counts = {}
        for seed in range(1500):
            drawer, book = drawn_pair(seed)
            turns = turns_to_part(book, "p", "q")
            counts[turns] = counts.get(turns, 0) + 1
            self.assertEqual(turns_to_part(book, "q", "p"), turns, book_text(book))
            self.assertIs(are_alike(book, "p", "q"), turns is None)
            if turns is None:
                for _ in range(8):
                    program = drawer.program(book, "p", 14)
                    self.assertEqual(play(book, program), play_with(book, program, "p", "q"),
                                     (book_text(book), program_text(book, program)))
            else:
                for one, other in (("p", "q"), ("q", "p")):
                    program = parting(book, one, other)
                    self.assertEqual(calls_in(book, program), turns)
                    self.assertNotEqual(play(book, program), play_with(book, program, one, other))
        self.assertGreater(counts[None], 200)
        for turns in (1, 2, 3):
            self.assertGreater(counts[turns], 5)

    def test_programs_of_fewer_turns_part_nothing(self):
        tried = 0
        for seed in range(1500, 2500):
            drawer, book = drawn_pair(seed)
            turns = turns_to_part(book, "p", "q")
            if turns is None or turns == 1:
                continue
            for _ in range(40):
                program = drawer.program(book, "p", 8)
                if calls_in(book, program) < turns:
                    tried += 1
                    self.assertEqual(play(book, program), play_with(book, program, "p", "q"),
                                     (book_text(book), program_text(book, program)))
        self.assertGreater(tried, 100)

    def test_no_turn_of_a_parting_is_left_out(self):
        for seed in range(2500, 2800):
            _, book = drawn_pair(seed)
            program = parting(book, "p", "q")
            if program is not None:
                self.assertEqual(len(OwnPlayer(book, program).turns), calls_in(book, program))


class TestWhatItHangsOn(unittest.TestCase):

    def test_other_names_of_slots(self):
        counts = {}
        for seed in range(400):
            drawer = Drawer(seed)
            piece = drawer.piece("p")
            self.assertIs(are_alike((drawer.variables, (piece, renamed(piece, "q"))), "p", "q"), True)
            other = drawer.near(piece, "q")
            book = (drawer.variables, (piece, other))
            far = (drawer.variables, (piece, renamed(other, "q")))
            turns = turns_to_part(book, "p", "q")
            self.assertEqual(turns, turns_to_part(far, "p", "q"), book_text(book))
            self.assertEqual(turns, turns_to_part((drawer.variables, (renamed(piece, "p"), other)), "p", "q"))
            counts[turns] = counts.get(turns, 0) + 1
        self.assertGreater(counts[None], 50)

    def test_other_pieces_in_the_book(self):
        for seed in range(300):
            drawer, book = drawn_pair(seed)
            more = Drawer(-seed, drawer.variables, most=16, numbers=(0, 1, 50))
            among = (book[0], (more.piece("a"), book[1][1], more.piece("b"), book[1][0], more.piece("z")))
            self.assertEqual(parting(book, "p", "q"), parting(among, "p", "q"), book_text(among))

    def test_by_a_third_one(self):
        tried = 0
        for seed in range(300):
            drawer, book = drawn_pair(seed)
            book = (book[0], book[1] + (drawer.near(book[1][1], "r"), drawer.near(book[1][0], "s")))
            told = {(one, other): are_alike(book, one, other) for one in "pqrs" for other in "pqrs"}
            for one in "pqrs":
                self.assertIs(told[one, one], True)
                for other in "pqrs":
                    self.assertIs(told[one, other], told[other, one])
                    for third in "pqrs":
                        if told[one, other] and told[other, third]:
                            tried += len({one, other, third}) == 3
                            self.assertIs(told[one, third], True, book_text(book))
            rows = classes(book)
            self.assertEqual(sorted([name for row in rows for name in row]), list("pqrs"))
            for row in rows:
                self.assertEqual(row, [name for name in "pqrs" if told[row[0], name]])
            self.assertEqual([row[0] for row in rows], sorted([row[0] for row in rows]))
        self.assertGreater(tried, 50)


if __name__ == "__main__":
    unittest.main()

"""need_book, is_book and the questions answer "of anything", [1]: odd values at every place of a book."""

import unittest

from samples import FORMS, HUGE, Hostile, book_of, deep_tuple, doubled_statement, odd_tuples, odd_values, place_of
from stepwhere.errors import BadBook, BadQuestion
from stepwhere.pieces import count_by, numbers_of, slots_of, statements_of

PARAMS = (("a", "context"), ("b", "token"))
BOOK = (("x", "y", "z"), (("o", (), ()), ("p", PARAMS, FORMS[:8]), ("q", PARAMS, FORMS[8:])))


def paths_in(thing, path=()):
    """The paths to each item of the tuples of a book, the book itself too."""
    found = [path]
    if isinstance(thing, tuple):
        for at, item in enumerate(thing):
            found.extend(paths_in(item, path + (at,)))
    return found


def item_at(thing, path):
    for at in path:
        thing = thing[at]
    return thing


def changed(thing, path, new):
    """The thing with new at the end of the path."""
    if not path:
        return new
    at = path[0]
    return thing[:at] + (changed(thing[at], path[1:], new),) + thing[at + 1:]


def way_at(block, path):
    """The way to the innermost statement that a path from a block goes through."""
    if not path:
        return ()
    statement, rest = block[path[0]], path[1:]
    if len(rest) < 2 or not isinstance(statement[rest[0]], tuple):
        return (path[0],)
    blocks = [at for at, part in enumerate(statement) if isinstance(part, tuple)]
    return (path[0], blocks.index(rest[0])) + way_at(statement[rest[0]], rest[1:])


def place_at(path):
    """The place of the fault if what stands at the end of the path goes wrong by its own form."""
    if len(path) < 2:
        return ()
    if path[0] == 0:
        return ("vars",)
    if len(path) < 4 or path[2] != 2:
        return (path[1],)
    return (path[1], way_at(BOOK[1][path[1]][2], path[3:]))


class TestAnything(unittest.TestCase):

    def test_the_book_is_one(self):
        self.assertIsNone(place_of(BOOK))

    def test_odd_values_at_every_place(self):
        for path in paths_in(BOOK):
            for thing in odd_values():
                self.assertEqual(place_of(changed(BOOK, path, thing)), place_at(path), path)

    def test_odd_tuples_at_every_place(self):
        for path in paths_in(BOOK):
            kept = item_at(BOOK, path)
            for thing in odd_tuples():
                place = place_of(changed(BOOK, path, thing))
                if not isinstance(kept, tuple):
                    self.assertEqual(place, place_at(path), path)
                elif thing:
                    self.assertIsNotNone(place, path)

    def test_odd_values_and_tuples_by_themselves(self):
        for thing in odd_values():
            self.assertEqual(place_of(thing), ())
        for thing in odd_tuples():
            self.assertIn(place_of(thing), ((), ("vars",)))

    def test_very_deep_tuples(self):
        deep = ("fail",)
        for _ in range(20000):
            deep = ("if", "x", 1, (deep,), (deep,))
        self.assertEqual(place_of(book_of(deep)), (0, (0,) + (0, 0) * 5))
        self.assertEqual(place_of(deep_tuple(20000)), ())
        self.assertEqual(place_of((deep_tuple(20000), ())), ("vars",))
        self.assertEqual(place_of((("x",), (deep_tuple(20000),))), (0,))
        self.assertEqual(place_of(book_of(deep_tuple(20000))), (0, (0,)))
        self.assertEqual(place_of(book_of(("set", "x", deep_tuple(20000)))), (0, (0,)))

    def test_tuples_that_hold_one_part_many_times(self):
        self.assertEqual(place_of(book_of(doubled_statement(300))), (0, (0,) + (0, 0) * 5))
        self.assertEqual(place_of(book_of(doubled_statement(2))), (0, (0, 1, 1)))
        self.assertIsNone(place_of(book_of(doubled_statement(1), doubled_statement(1))))

    def test_very_long_tuples(self):
        many = 100000
        self.assertEqual(place_of(book_of(*[("fail",)] * many)), (0, (16,)))
        self.assertEqual(place_of((("x",) * many, ())), ("vars",))
        self.assertEqual(place_of((("x",), (None,) * many)), ())
        self.assertEqual(place_of(book_of(params=(("a", "token"),) * many)), (0,))
        self.assertEqual(place_of(book_of(("fail",) * many)), (0, (0,)))
        self.assertEqual(place_of(book_of(("loop", (("fail",),) * many))), (0, (0,)))
        late = ("loop", (("fail",),) * many + (("yield",),))
        self.assertEqual(place_of(book_of(late)), (0, (0, 0, 15)))
        self.assertEqual(place_of(book_of(("loop", (Hostile(),) * many + (("yield",),)))), (0, (0, 0, 0)))

    def test_very_long_numbers(self):
        for number in (HUGE, -HUGE):
            self.assertEqual(place_of(book_of(("if", "x", number, (), ()))), (0, (0,)))


class TestAnyName(unittest.TestCase):

    asked = (statements_of, slots_of, numbers_of, count_by)

    def test_bad_book_first(self):
        for ask in self.asked:
            for thing in odd_values():
                for name in ("p", "w", None, Hostile()):
                    with self.assertRaises(BadBook) as caught:
                        ask(thing, name)
                    self.assertEqual(caught.exception.place, ())
            with self.assertRaises(BadBook) as caught:
                ask(book_of(("fail",), ("nothing",)), "w")
            self.assertEqual(caught.exception.place, (0, (1,)))

    def test_then_bad_question_of_anything_that_is_no_name_of_a_piece(self):
        for ask in self.asked:
            for name in odd_values() + odd_tuples() + ["x", "a", "c", "t", "P", "set", 0, 1, ("p",), BOOK[1][1]]:
                with self.assertRaises(BadQuestion):
                    ask(BOOK, name)
            with self.assertRaises(BadQuestion):
                ask((("x",), ()), "x")


if __name__ == "__main__":
    unittest.main()

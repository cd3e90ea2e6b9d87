"""statements_of, slots_of, numbers_of and count_by, and that nothing told or passed is kept."""

import unittest

from samples import FORMS, VARS, book_of
from stepwhere.pieces import count_by, need_book, numbers_of, slots_of, statements_of

NESTED = (
    ("guard", (("with", "x", 40, (("show", "x"), ("yield",))),), (("fail",), ("hold", "u", "y", 3))),
    ("if", "x", 7, (("set", "y", "x"),), (("within", "c", (("drop", "y"),)),)),
    ("loop", (("yield",), ("leave",))),
)
PARAMS = (("z", "token"), ("d", "context"))
BOOK = (VARS, (("a", (), ()), ("p", PARAMS, NESTED), ("q", (), FORMS[:8])))


class TestStatements(unittest.TestCase):

    def test_of_no_statements(self):
        self.assertEqual(statements_of(BOOK, "a"), [])

    def test_as_they_are_met(self):
        ways = [(0,), (0, 0, 0), (0, 0, 0, 0, 0), (0, 0, 0, 0, 1), (0, 1, 0), (0, 1, 1), (1,), (1, 0, 0), (1, 1, 0),
                (1, 1, 0, 0, 0), (2,), (2, 0, 0), (2, 0, 1)]
        words = ["guard", "with", "show", "yield", "fail", "hold", "if", "set", "within", "drop", "loop", "yield",
                 "leave"]
        told = statements_of(BOOK, "p")
        self.assertEqual([way for way, statement in told], ways)
        self.assertEqual([statement[0] for way, statement in told], words)
        self.assertEqual(told[1], ((0, 0, 0), ("with", "x", 40, (("show", "x"), ("yield",)))))
        self.assertEqual(told[9], ((1, 1, 0, 0, 0), ("drop", "y")))

    def test_of_each_form_with_blocks_in_both_places(self):
        one, two = ("show", "x"), ("show", "y")
        for statement in FORMS:
            told = statements_of(book_of(statement), "p")
            self.assertEqual(told[0], ((0,), statement))
        for outer in (("guard", (one,), (two,)), ("if", "x", 1, (one,), (two,))):
            self.assertEqual(statements_of(book_of(("fail",), outer), "p"),
                             [((0,), ("fail",)), ((1,), outer), ((1, 0, 0), one), ((1, 1, 0), two)])
        for outer in (("within", "c", (one, two)), ("with", "x", "y", (one, two))):
            self.assertEqual(statements_of(book_of(outer), "p"), [((0,), outer), ((0, 0, 0), one), ((0, 0, 1), two)])
        loop = ("loop", (one, ("yield",)))
        self.assertEqual(statements_of(book_of(loop), "p"), [((0,), loop), ((0, 0, 0), one), ((0, 0, 1), ("yield",))])

    def test_it_tells_a_list_of_pairs(self):
        told = statements_of(BOOK, "p")
        self.assertIs(type(told), list)
        for pair in told:
            self.assertEqual([type(part) for part in pair], [tuple, tuple])
            self.assertIs(type(pair), tuple)


class TestSlots(unittest.TestCase):

    def test_those_of_params_and_of_statements_ascending(self):
        told = slots_of(BOOK, "p")
        self.assertEqual(list(told.items()), [("c", "context"), ("d", "context"), ("u", "token"), ("z", "token")])
        self.assertEqual(slots_of(BOOK, "a"), {})

    def test_of_each_form(self):
        expected = {"hold": {"t": "token"}, "reset": {"t": "token"}, "copy": {"c": "context"},
                    "within": {"c": "context"}}
        for statement in FORMS:
            self.assertEqual(slots_of(book_of(statement), "p"), expected.get(statement[0], {}))

    def test_in_both_blocks(self):
        for outer in (("guard", (("copy", "b"),), (("reset", "a"),)), ("if", "x", 1, (("copy", "b"),), (("reset", "a"),))):
            self.assertEqual(list(slots_of(book_of(outer), "p").items()), [("a", "token"), ("b", "context")])

    def test_a_slot_with_the_name_of_a_variable(self):
        self.assertEqual(slots_of(book_of(("set", "x", "y"), ("copy", "y")), "p"), {"y": "context"})


class TestNumbers(unittest.TestCase):

    def test_ascending_each_once(self):
        self.assertEqual(numbers_of(BOOK, "p"), (3, 7, 40))
        self.assertEqual(numbers_of(BOOK, "a"), ())
        book = book_of(("set", "x", 99), ("set", "x", 0), ("if", "x", 10, (("set", "y", 9),), (("set", "y", 99),)))
        self.assertEqual(numbers_of(book, "p"), (0, 9, 10, 99))
        self.assertIs(type(numbers_of(book, "p")), tuple)

    def test_of_each_form(self):
        expected = {"set": (5,), "if": (7,), "with": (5,)}
        for statement in FORMS:
            self.assertEqual(numbers_of(book_of(statement), "p"), expected.get(statement[0], ()))
        self.assertEqual(numbers_of(book_of(("hold", "t", "x", 8)), "p"), (8,))
        self.assertEqual(numbers_of(book_of(("with", "x", "y", ())), "p"), ())

    def test_in_both_blocks(self):
        for outer in (("guard", (("set", "x", 2),), (("set", "x", 1),)), ("if", "x", 1, (("set", "x", 2),), ())):
            self.assertEqual(numbers_of(book_of(outer), "p"), (1, 2))


class TestCounts(unittest.TestCase):

    def test_ascending_words(self):
        told = count_by(BOOK, "p")
        self.assertEqual(list(told.items()), [
            ("drop", 1), ("fail", 1), ("guard", 1), ("hold", 1), ("if", 1), ("leave", 1), ("loop", 1), ("set", 1),
            ("show", 1), ("with", 1), ("within", 1), ("yield", 2)])
        self.assertEqual(count_by(BOOK, "a"), {})
        self.assertEqual(count_by(book_of(*[("fail",)] * 16), "p"), {"fail": 16})

    def test_of_each_form(self):
        for statement in FORMS:
            self.assertEqual(count_by(book_of(statement, statement), "p")[statement[0]], 2)

    def test_in_both_blocks(self):
        for outer in (("guard", (("fail",),), (("fail",),)), ("if", "x", 1, (("fail",),), (("fail",),))):
            self.assertEqual(count_by(book_of(outer), "p"), {"fail": 2, outer[0]: 1})


class TestOwn(unittest.TestCase):

    def test_what_is_told_is_the_callers_own(self):
        statements_of(BOOK, "p").clear()
        slots_of(BOOK, "p").clear()
        count_by(BOOK, "p")["yield"] = 50
        self.assertEqual(len(statements_of(BOOK, "p")), 13)
        self.assertEqual(len(slots_of(BOOK, "p")), 4)
        self.assertEqual(count_by(BOOK, "p")["yield"], 2)

    def test_need_book_tells_the_very_thing(self):
        self.assertIs(need_book(BOOK), BOOK)

    def test_a_refused_thing_is_neither_changed_nor_kept(self):
        lists = (["x"], [["p", [], [["fail"]]]])
        for _ in range(2):
            with self.assertRaises(ValueError):
                need_book(lists)
        self.assertEqual(lists, (["x"], [["p", [], [["fail"]]]]))

    def test_pieces_of_one_book_are_told_apart(self):
        self.assertEqual([statement for way, statement in statements_of(BOOK, "q") if len(way) == 1], list(FORMS[:8]))


if __name__ == "__main__":
    unittest.main()

"""Statements that are left out, exchanged and put in, [26] and [27]."""

import unittest

from drawn import Drawer
from samples import Hostile, odd_tuples, odd_values
from stepwhere.alike import are_alike
from stepwhere.booktexts import book_text, read_book, words_of_piece
from stepwhere.errors import BadBook, BadQuestion, TooGreat
from stepwhere.pieces import is_book, statements_of
from stepwhere.reach import reached
from stepwhere.shorter import exchanged, free, lean, needless, put_in, without

BAD_BOOK = (("x",), (("p", (), (("nothing",),)),))


def book_of(rows, params="", variables="x y", more=""):
    return read_book(f"vars {variables} ; piece p {params} {{ {rows} }} {more}")


def rows_of(piece):
    """The statements of a piece as text."""
    words = words_of_piece(piece)
    return " ".join(words[words.index("{") + 1:-1])


def refused(ask, *parts):
    try:
        ask(*parts)
    except (BadBook, TooGreat) as error:
        return type(error), error.place
    except BadQuestion:
        return BadQuestion, None
    return None


def alike_to(book, piece):
    """Whether a piece is alike to the piece p of the book."""
    return are_alike((book[0], (book[1][0], ("q",) + piece[1:])), "p", "q")


WRONG_WAYS = ((), (5,), (-1,), (0, 0), (1, 0), (1, 0, 5), (1, 1, 0), (1, 0, -1), (1, -1, 0), (1, 2, 0), (1, 0, 0, 0, 0),
              (1, 0, 0, 0), [0], "0", 0, None, ("0",), (True,), (False,), (1, False, 0), (1, 0, True),
              ((0,),), (None,), (0,) * 50, (10 ** 3999,), (Hostile(),), Hostile(), (0, Hostile()))


class TestWithout(unittest.TestCase):

    def test_each_place(self):
        book = book_of("show x ; guard { set x 1 ; if y 2 { fail } { drop x ; yield } } { show y } ; loop { yield ; leave }")
        for way, rows in (((0,), "guard { set x 1 ; if y 2 { fail } { drop x ; yield } } { show y } ; loop { yield ; leave }"),
                          ((1,), "show x ; loop { yield ; leave }"),
                          ((1, 0, 0), "show x ; guard { if y 2 { fail } { drop x ; yield } } { show y } ; loop { yield ; leave }"),
                          ((1, 0, 1), "show x ; guard { set x 1 } { show y } ; loop { yield ; leave }"),
                          ((1, 0, 1, 0, 0), "show x ; guard { set x 1 ; if y 2 { } { drop x ; yield } } { show y } ; loop { yield ; leave }"),
                          ((1, 0, 1, 1, 1), "show x ; guard { set x 1 ; if y 2 { fail } { drop x } } { show y } ; loop { yield ; leave }"),
                          ((1, 1, 0), "show x ; guard { set x 1 ; if y 2 { fail } { drop x ; yield } } { } ; loop { yield ; leave }"),
                          ((2,), "show x ; guard { set x 1 ; if y 2 { fail } { drop x ; yield } } { show y }"),
                          ((2, 0, 1), "show x ; guard { set x 1 ; if y 2 { fail } { drop x ; yield } } { show y } ; loop { yield }")):
            self.assertEqual(rows_of(without(book, "p", way)), rows, way)

    def test_all_statements_of_all_forms(self):
        for rows in ("within c { show x }", "with x 1 { show x }", "guard { show x } { show x }", "if x 1 { show x } { show x }",
                     "loop { yield ; show x }", "hold t x 5", "copy c"):
            book = book_of("show y ; " + rows + " ; show y", "c context t token")
            self.assertEqual(rows_of(without(book, "p", (1,))), "show y ; show y")
            for way, statement in statements_of(book, "p"):
                if len(way) > 1 and statement == ("show", "x"):
                    self.assertEqual(len(statements_of((book[0], (without(book, "p", way),)), "p")),
                                     len(statements_of(book, "p")) - 1)

    def test_name_and_params_stay(self):
        book = book_of("show x", "c context t token")
        self.assertEqual(without(book, "p", (0,)), ("p", (("c", "context"), ("t", "token")), ()))

    def test_bad_book_of_a_loop_without_its_yield(self):
        book = book_of("show x ; loop { show x ; yield ; show y }", more="; piece q { }")
        self.assertEqual(refused(without, book, "p", (1, 0, 1)), (BadBook, (0, (1,))))
        behind = (book[0], (("a", (), ()), ("b", (), ()), book[1][0]))
        self.assertEqual(refused(without, behind, "p", (1, 0, 1)), (BadBook, (2, (1,))))
        inner = book_of("guard { } { loop { yield ; loop { yield } } }")
        self.assertEqual(refused(without, inner, "p", (0, 1, 0, 0, 1, 0, 0)), (BadBook, (0, (0, 1, 0, 0, 1))))
        self.assertEqual(refused(without, inner, "p", (0, 1, 0, 0, 0)), (BadBook, (0, (0, 1, 0))))
        two = book_of("loop { yield ; yield }")
        self.assertEqual(rows_of(without(two, "p", (0, 0, 0))), "loop { yield }")

    def test_bad_question_of_ways(self):
        book = book_of("show x ; guard { show y } { } ; fail")
        for way in WRONG_WAYS + tuple(odd_values()) + tuple(odd_tuples()):
            self.assertEqual(refused(without, book, "p", way), (BadQuestion, None), repr(type(way)))
        one = book_of("show x")
        for way in ((True,), (False,), [0], (0, 0), (1,)):
            self.assertEqual(refused(without, one, "p", way), (BadQuestion, None))

    def test_errors_in_their_order(self):
        book = book_of("loop { yield }")
        self.assertEqual(refused(without, BAD_BOOK, "z", None), (BadBook, (0, (0,))))
        for thing in odd_values() + odd_tuples() + ["x", "z"]:
            self.assertEqual(refused(without, thing, "p", (0,))[0], BadBook)
            self.assertEqual(refused(without, book, thing, (0, 0, 0)), (BadQuestion, None))

    def test_there_are_no_bounds(self):
        book = book_of(" ; ".join(["show z"] * 16), variables="x y z")
        self.assertEqual(len(without(book, "p", (15,))[2]), 15)

    def test_the_book_is_as_it_was(self):
        book = book_of("show x ; show y")
        without(book, "p", (0,))
        exchanged(book, "p", (0,))
        self.assertEqual(book_text(book), "vars x y ; piece p { show x ; show y }")


class TestExchanged(unittest.TestCase):

    def test_each_place(self):
        book = book_of("show x ; guard { set x 1 ; drop x ; yield } { show y ; fail } ; loop { yield ; leave }")
        for way, rows in (((0,), "guard { set x 1 ; drop x ; yield } { show y ; fail } ; show x ; loop { yield ; leave }"),
                          ((1,), "show x ; loop { yield ; leave } ; guard { set x 1 ; drop x ; yield } { show y ; fail }"),
                          ((1, 0, 0), "show x ; guard { drop x ; set x 1 ; yield } { show y ; fail } ; loop { yield ; leave }"),
                          ((1, 0, 1), "show x ; guard { set x 1 ; yield ; drop x } { show y ; fail } ; loop { yield ; leave }"),
                          ((1, 1, 0), "show x ; guard { set x 1 ; drop x ; yield } { fail ; show y } ; loop { yield ; leave }"),
                          ((2, 0, 0), "show x ; guard { set x 1 ; drop x ; yield } { show y ; fail } ; loop { leave ; yield }")):
            self.assertEqual(rows_of(exchanged(book, "p", way)), rows)

    def test_bad_question_of_ways_and_of_the_last_one(self):
        book = book_of("show x ; guard { show y } { } ; fail")
        for way in WRONG_WAYS + tuple(odd_values()) + tuple(odd_tuples()) + ((2,), (1, 0, 0)):
            self.assertEqual(refused(exchanged, book, "p", way), (BadQuestion, None), repr(type(way)))
        self.assertEqual(rows_of(exchanged(book, "p", (1,))), "show x ; fail ; guard { show y } { }")

    def test_errors_in_their_order(self):
        book = book_of("yield ; yield")
        self.assertEqual(refused(exchanged, BAD_BOOK, "z", None), (BadBook, (0, (0,))))
        for thing in odd_values() + odd_tuples() + ["x", "z"]:
            self.assertEqual(refused(exchanged, thing, "p", (0,))[0], BadBook)
            self.assertEqual(refused(exchanged, book, thing, (0,)), (BadQuestion, None))

    def test_there_are_no_bounds(self):
        book = book_of(" ; ".join(["show z"] * 15 + ["show x"]), variables="x y z")
        self.assertEqual(rows_of(exchanged(book, "p", (14,))), " ; ".join(["show z"] * 14 + ["show x", "show z"]))


class TestNeedless(unittest.TestCase):

    def assert_needless(self, rows, ways, params=""):
        self.assertEqual(needless(book_of(rows, params), "p"), ways, rows)

    def test_by_hand(self):
        self.assert_needless("", [])
        self.assert_needless("show x", [])
        self.assert_needless("set x 1 ; set x 2", [(0,)])
        self.assert_needless("set x 1 ; set x 1", [(0,), (1,)])
        self.assert_needless("drop x ; drop x ; drop x", [(0,), (1,), (2,)])
        self.assert_needless("hold t x 1 ; reset t", [])
        self.assert_needless("guard { hold t x 1 ; reset t } { }", [(0,), (0, 0, 0)])
        self.assert_needless("guard { hold t x 1 ; reset t ; show y } { }", [])
        self.assert_needless("show x ; fail ; show x", [(2,)])
        self.assert_needless("guard { fail ; show x } { show y }", [(0, 0, 1)])
        self.assert_needless("copy c ; show x", [(0,)])
        self.assert_needless("with x 1 { show y }", [])
        self.assert_needless("guard { } { show x ; guard { fail } { } }", [(0,), (0, 1, 0), (0, 1, 1), (0, 1, 1, 0, 0)])

    def test_a_block_is_looked_at_by_itself_too(self):
        self.assert_needless("with x 1 { with y 2 { } }", [(0,), (0, 0, 0)])
        self.assert_needless("if x 1 { set x 1 } { }", [(0,), (0, 0, 0)])
        self.assert_needless("if x 1 { set x 1 ; show x } { show x }", [(0, 0, 0)])

    def test_the_yield_of_a_loop_is_not_needless(self):
        self.assert_needless("fail ; loop { yield }", [(1,)])
        self.assert_needless("fail ; loop { yield ; yield }", [(1,), (1, 0, 0), (1, 0, 1)])
        self.assert_needless("loop { yield ; yield }", [(0, 0, 0), (0, 0, 1)])

    def test_params(self):
        self.assert_needless("guard { within c { } } { }", [(0,), (0, 0, 0)], "c context")
        self.assert_needless("within c { show x ; show y }", [], "c context")
        self.assert_needless("reset t ; guard { reset t } { }", [(1,), (1, 0, 0)], "t token")

    def test_what_is_not_reached_is_needless_unless_its_loop_needs_it(self):
        for seed in range(60):
            drawer = Drawer(seed)
            book = (drawer.variables, (drawer.piece("p"),))
            told, begun = needless(book, "p"), reached(book, "p")
            ways = [way for way, _ in statements_of(book, "p")]
            self.assertEqual(told, [way for way in ways if way in told])
            for way in ways:
                try:
                    shorter = without(book, "p", way)
                except BadBook:
                    self.assertNotIn(way, told)
                else:
                    self.assertIs(way in told, alike_to(book, shorter), book_text(book))
                    if way not in begun:
                        self.assertIn(way, told, book_text(book))


class TestLean(unittest.TestCase):

    def assert_lean(self, rows, told, params=""):
        book = book_of(rows, params)
        piece = lean(book, "p")
        self.assertEqual(rows_of(piece), told)
        self.assertEqual((piece[0], piece[1]), book[1][0][:2])
        again = (book[0], (piece,))
        self.assertEqual(lean(again, "p"), piece)
        self.assertEqual(needless(again, "p"), [])
        self.assertTrue(alike_to(book, piece))

    def test_by_hand(self):
        for rows, told in (("", ""), ("show x", "show x"), ("set x 1 ; set x 2 ; set x 3", "set x 3"),
                           ("set x 1 ; set x 1", "set x 1"), ("guard { guard { } { } } { fail ; fail }", ""),
                           ("yield ; fail ; yield ; show x", "yield ; fail"), ("copy c ; within c { set x 1 ; set y 2 }", ""),
                           ("show x ; if x 1 { fail ; show x } { fail } ; yield", "show x ; if x 1 { fail } { fail }"),
                           ("with x 1 { with y 2 { } ; show x }", "with x 1 { show x }"),
                           ("loop { yield ; yield ; yield }", "loop { yield }"),
                           ("if x 1 { show x ; set x 1 } { show x }", "if x 1 { show x } { show x }"),
                           ("set x 1 ; if x 1 { show y } { fail ; show x }", "set x 1 ; if x 1 { show y } { }"),
                           ("hold t x 1 ; set y 1 ; reset t", "hold t x 1 ; set y 1 ; reset t")):
            self.assert_lean(rows, told)
        self.assert_lean("guard { within c { fail } } { } ; show x", "show x", "c context")

    def test_the_first_one_goes_first(self):
        # Either of the two can go, and then the other one cannot.
        self.assert_lean("drop x ; guard { show y ; drop x } { drop x }", "guard { show y ; drop x } { drop x }")
        self.assert_lean("guard { fail } { show x } ; fail", "guard { fail } { show x } ; fail")
        self.assert_lean("show x ; show x", "show x ; show x")

    def test_drawn_ones(self):
        shorter = 0
        for seed in range(100, 220):
            drawer = Drawer(seed)
            book = (drawer.variables, (drawer.piece("p"),))
            piece = lean(book, "p")
            self.assert_is_by_steps(book, piece)
            shorter += piece != book[1][0]
        self.assertGreater(shorter, 40)

    def assert_is_by_steps(self, book, piece):
        """The same by the words of [26], with what is told of needless ones."""
        while needless(book, "p"):
            book = (book[0], (without(book, "p", needless(book, "p")[0]),))
        self.assertEqual(piece, book[1][0])


class TestFree(unittest.TestCase):

    def assert_free(self, rows, ways, params=""):
        self.assertEqual(free(book_of(rows, params), "p"), ways, rows)

    def test_by_hand(self):
        self.assert_free("", [])
        self.assert_free("show x", [])
        self.assert_free("set x 1 ; set y 2", [(0,)])
        self.assert_free("set x 1 ; set x 2", [])
        self.assert_free("set x 1 ; set x 1 ; set y x", [(0,), (1,)])
        self.assert_free("set x 1 ; set x 2 ; set y x", [])
        self.assert_free("show x ; show x", [(0,)])
        self.assert_free("show x ; show y", [])
        self.assert_free("yield ; show x ; fail ; drop x", [])
        self.assert_free("fail ; fail ; show x", [(0,), (1,)])
        self.assert_free("copy c ; hold t x 1 ; set y 1", [(0,), (1,)])
        self.assert_free("copy c ; yield ; set x 1", [(0,)])
        self.assert_free("guard { set x 1 ; drop y } { fail ; fail } ; show x ; show x", [(0, 0, 0), (0, 1, 0), (1,)])
        self.assert_free("within c { drop x ; drop y } ; within d { drop x }", [(0, 0, 0)], "c context d context")

    def test_drawn_ones(self):
        told = 0
        for seed in range(300, 360):
            drawer = Drawer(seed)
            book = (drawer.variables, (drawer.piece("p"),))
            ways = []
            for way, _ in statements_of(book, "p"):
                try:
                    other = exchanged(book, "p", way)
                except BadQuestion:
                    continue
                if alike_to(book, other):
                    ways.append(way)
            self.assertEqual(free(book, "p"), ways, book_text(book))
            told += len(ways)
        self.assertGreater(told, 10)


class TestQuestionsOfOnePiece(unittest.TestCase):

    def test_errors_in_their_order(self):
        nine = " ; ".join(["fail"] * 9)
        book = read_book("vars x y; piece a {}; piece p { " + nine + " }")
        for ask in (needless, free, lean):
            for thing in odd_values() + odd_tuples():
                self.assertEqual(refused(ask, thing, None)[0], BadBook)
                self.assertEqual(refused(ask, book, thing), (BadQuestion, None))
            self.assertEqual(refused(ask, BAD_BOOK, "z"), (BadBook, (0, (0,))))
            self.assertEqual(refused(ask, book, "p"), (TooGreat, (1,)))
            self.assertIsNone(refused(ask, book, "a"))
            three = read_book("vars x y z; piece p { " + nine + " }; piece q {}")
            self.assertEqual(refused(ask, three, "q"), (TooGreat, ("vars",)))
            self.assertEqual(refused(ask, three, "p"), (TooGreat, ("vars",)))
            self.assertEqual(refused(ask, three, "z"), (BadQuestion, None))

    def test_other_pieces_of_the_book_change_nothing(self):
        long = "; piece z c context { " + " ; ".join(["fail"] * 16) + " }"
        for rows in ("set x 1 ; set x 2 ; set y 1", "show x ; fail ; fail"):
            for ask in (needless, free, lean):
                self.assertEqual(ask(book_of(rows), "p"), ask(book_of(rows, more=long), "p"))

    def test_the_lists_are_the_callers_own(self):
        book = book_of("set x 1 ; set y 1 ; set y 1")
        for ask in (needless, free):
            kept = list(ask(book, "p"))
            self.assertTrue(kept)
            ask(book, "p").clear()
            self.assertEqual(ask(book, "p"), kept)


class TestPutIn(unittest.TestCase):

    def test_each_place(self):
        book = book_of("show x ; guard { drop x ; drop y } { fail } ; if x 1 { } { show y }",
                       more="; piece q { set x 1 ; yield } ; piece none { }")
        for way, rows in (((0,), "set x 1 ; yield ; guard { drop x ; drop y } { fail } ; if x 1 { } { show y }"),
                          ((1,), "show x ; set x 1 ; yield ; if x 1 { } { show y }"),
                          ((1, 0, 1), "show x ; guard { drop x ; set x 1 ; yield } { fail } ; if x 1 { } { show y }"),
                          ((1, 1, 0), "show x ; guard { drop x ; drop y } { set x 1 ; yield } ; if x 1 { } { show y }"),
                          ((2, 1, 0), "show x ; guard { drop x ; drop y } { fail } ; if x 1 { } { set x 1 ; yield }")):
            piece = put_in(book, "p", way, "q")
            self.assertEqual((piece[0], rows_of(piece)), ("p", rows))
            self.assertEqual(put_in(book, "p", way, "none"), without(book, "p", way))

    def test_params_of_the_one_stay(self):
        book = book_of("within c { } ; fail", "c context t token", more="; piece q { show x }")
        self.assertEqual(put_in(book, "p", (1,), "q")[1], (("c", "context"), ("t", "token")))

    def test_a_loop_and_a_within_go_but_nothing_in_them(self):
        book = book_of("loop { yield ; if x 1 { show x } { } } ; within c { show y } ; guard { with x 1 { fail } } { }",
                       more="; piece q { show x }")
        for way in ((0,), (1,), (2,), (2, 0, 0), (2, 0, 0, 0, 0)):
            self.assertIsNone(refused(put_in, book, "p", way, "q"), way)
        for way in ((0, 0, 0), (0, 0, 1), (0, 0, 1, 0, 0), (1, 0, 0)):
            self.assertEqual(refused(put_in, book, "p", way, "q"), (BadQuestion, None), way)
        deep = book_of("guard { within c { guard { fail } { } } } { loop { guard { } { fail } ; yield } }",
                       more="; piece q { }")
        for way, told in (((0,), None), ((0, 0, 0), None), ((0, 0, 0, 0, 0), BadQuestion),
                          ((0, 0, 0, 0, 0, 0, 0), BadQuestion), ((0, 1, 0), None), ((0, 1, 0, 0, 0, 1, 0), BadQuestion)):
            found = refused(put_in, deep, "p", way, "q")
            self.assertEqual(found, (told, None) if told else None, way)

    def test_no_params_of_the_other(self):
        book = book_of("fail", more="; piece q c context { } ; piece r t token { }")
        for name in ("q", "r"):
            self.assertEqual(refused(put_in, book, "p", (0,), name), (BadQuestion, None))
        into = read_book("vars x; piece p c context { fail }; piece q { show x }")
        self.assertIsNone(refused(put_in, into, "p", (0,), "q"))
        self.assertEqual(refused(put_in, into, "q", (0,), "p"), (BadQuestion, None))

    def test_no_slot_of_the_same_name(self):
        for one, params, other in (("hold t x 1 ; fail", "", "hold t x 1"), ("hold t x 1 ; fail", "", "copy t"),
                                   ("fail ; fail", "t token", "reset t"), ("fail ; fail", "t token", "copy t"),
                                   ("copy t ; guard { reset u } { }", "", "guard { reset u } { }"),
                                   ("fail ; reset t", "", "guard { } { reset t }")):
            book = book_of(one, params, more="; piece q { " + other + " }")
            ways = [way for way, _ in statements_of(book, "p")]
            for way in ways:
                self.assertEqual(refused(put_in, book, "p", way, "q"), (BadQuestion, None), (one, way))
        # That of the statement which goes, too.
        book = book_of("reset t", more="; piece q { reset t } ; piece r { reset s }")
        self.assertEqual(refused(put_in, book, "p", (0,), "q"), (BadQuestion, None))
        self.assertEqual(rows_of(put_in(book, "p", (0,), "r")), "reset s")
        # A variable, and the piece itself, may have the name of a slot.
        named = read_book("vars x; piece p { show x ; copy p }; piece q { hold x x 1 ; copy q }")
        self.assertEqual(rows_of(put_in(named, "p", (0,), "q")), "hold x x 1 ; copy q ; copy p")

    def test_into_itself(self):
        book = book_of("show x ; guard { fail } { }")
        self.assertEqual(rows_of(put_in(book, "p", (1, 0, 0), "p")), "show x ; guard { show x ; guard { fail } { } } { }")
        self.assertEqual(refused(put_in, book_of("copy c"), "p", (0,), "p"), (BadQuestion, None))
        self.assertEqual(refused(put_in, book_of("fail", "c context"), "p", (0,), "p"), (BadQuestion, None))

    def test_then_bad_book(self):
        eight = " ; ".join(["show x"] * 8)
        nine = " ; ".join(["show x"] * 9)
        more = "; piece q { " + eight + " } ; piece r { " + nine + " }"
        book = book_of(eight, more=more)
        self.assertEqual(len(put_in(book, "p", (3,), "r")[2]), 16)
        nine_in = book_of(nine, more=more)
        self.assertEqual(len(put_in(nine_in, "p", (3,), "q")[2]), 16)
        self.assertEqual(refused(put_in, nine_in, "p", (3,), "r"), (BadBook, (0, (16,))))
        self.assertEqual(refused(put_in, nine_in, "r", (0,), "p"), (BadBook, (2, (16,))))
        deep = book_of("guard { guard { guard { guard { fail } { } } { } } { } } { }",
                       more="; piece q { fail ; guard { } { fail } }")
        self.assertEqual(refused(put_in, deep, "p", (0, 0, 0, 0, 0, 0, 0, 0, 0), "q"),
                         (BadBook, (0, (0, 0, 0, 0, 0, 0, 0, 0, 1, 1, 0))))
        self.assertEqual(refused(put_in, deep, "q", (1, 1, 0), "p"), (BadBook, (1, (1, 1, 0, 0, 0, 0, 0, 0, 0, 0, 0))))
        self.assertIsNone(refused(put_in, deep, "p", (0, 0, 0, 0, 0, 0, 0), "q"))

    def test_errors_in_their_order(self):
        book = book_of("loop { yield }", "c context", more="; piece q { fail }")
        self.assertEqual(refused(put_in, BAD_BOOK, "z", None, None), (BadBook, (0, (0,))))
        for thing in odd_values() + odd_tuples() + ["x", "z"]:
            self.assertEqual(refused(put_in, thing, "p", (0,), "p")[0], BadBook)
            self.assertEqual(refused(put_in, book, thing, (0,), "q"), (BadQuestion, None))
            self.assertEqual(refused(put_in, book, "p", (0,), thing), (BadQuestion, None))
        for way in WRONG_WAYS + tuple(odd_values()) + tuple(odd_tuples()):
            self.assertEqual(refused(put_in, book_of("show x ; guard { show y } { } ; fail", more="; piece q { }"), "p", way, "q"),
                             (BadQuestion, None))

    def test_two_faults_at_once(self):
        more = "; piece q c context { " + " ; ".join(["fail"] * 16) + " } ; piece r { " + " ; ".join(["fail"] * 16) + " }"
        book = book_of("loop { yield ; fail } ; fail", "c context", more=more)
        for way, other in (((1,), "q"), ((0, 0, 1), "r"), ((5,), "r"), ((0, 0, 1), "q")):
            self.assertEqual(refused(put_in, book, "p", way, other), (BadQuestion, None))
        self.assertEqual(refused(put_in, book, "p", (1,), "r"), (BadBook, (0, (14,))))

    def test_there_are_no_bounds(self):
        book = book_of(" ; ".join(["show z"] * 15), variables="x y z", more="; piece q { show z ; fail }")
        self.assertEqual(len(put_in(book, "p", (14,), "q")[2]), 16)


class TestPutInAlike(unittest.TestCase):

    pairs = (("set x 1 ; set x 2", "set x 2"), ("set x 1 ; drop x", "drop x"), ("hold t x 1 ; reset t", ""),
             ("with x 1 { set y 2 }", "set y 2"), ("copy c ; within c { set x 1 }", ""),
             ("guard { fail } { show x }", "show x"), ("if x 1 { yield } { yield }", "yield"),
             ("guard { yield } { fail } ; show y", "yield ; show y"), ("yield", "guard { yield } { yield }"))

    def test_both_halves_of_a_pair_in_the_same_place(self):
        for one, other in self.pairs:
            for rows, way in (("fail", (0,)), ("show x ; fail ; show x", (1,)), ("guard { fail ; show y } { set x 3 }", (0, 0, 0)),
                              ("guard { fail } { fail } ; show x", (0, 1, 0)), ("with x 5 { fail ; yield }", (0, 0, 0)),
                              ("if x 1 { fail } { show x } ; yield", (0, 0, 0)), ("with y 2 { guard { fail } { show x } }", (0, 0, 0, 0, 0)),
                              ("guard { with y 2 { fail } } { show y }", (0, 0, 0, 0, 0))):
                book = book_of(rows, more=f"; piece q {{ {one} }} ; piece r {{ {other} }}")
                made = [put_in(book, "p", way, name) for name in ("q", "r")]
                both = (book[0], (made[0], ("other",) + made[1][1:]))
                self.assertIs(are_alike(both, "p", "other"), True, book_text(both))

    def test_lean_forms_of_drawn_ones(self):
        tried = 0
        for seed in range(400, 700):
            drawer = Drawer(seed, most=4)
            piece = drawer.piece("q", ())
            book = (drawer.variables, (("p", (), (("show", "x"), ("guard", (("fail",),), (("yield",),)), ("fail",))), piece))
            short = (book[0], (book[1][0], lean(book, "q")))
            for way in ((0,), (1, 0, 0), (2,)):
                made = [put_in(one, "p", way, "q") for one in (book, short)]
                both = (book[0], (made[0], ("other",) + made[1][1:]))
                self.assertTrue(is_book(both))
                tried += made[0] != made[1]
                self.assertIs(are_alike(both, "p", "other"), True, book_text(both))
        self.assertGreater(tried, 100)


if __name__ == "__main__":
    unittest.main()

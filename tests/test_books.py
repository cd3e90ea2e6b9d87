"""What is a book, [4] and [5], and the place of the first fault of what is none, [6]."""

import unittest

from samples import FORMS, HUGE, VARS, around, book_of, book_with, piece, place_of
from stepwhere import pieces

FAIL = ("fail",)
YIELD = ("yield",)
LEAVE = ("leave",)


class TestLimits(unittest.TestCase):

    def test_constants(self):
        told = (pieces.MOST_PIECES, pieces.MOST_STATEMENTS, pieces.MOST_AROUND, pieces.KINDS)
        self.assertEqual(told, (6, 16, 4, ("context", "token")))

    def test_not_a_pair_of_two_tuples(self):
        for thing in ((), (VARS,), (VARS, (), ()), [VARS, ()], (list(VARS), ()), (VARS, []), ("x", ()), (VARS, "p"),
                      (None, ()), (VARS, None), "xy", {}, 0):
            self.assertEqual(place_of(thing), ())

    def test_variables_one_to_three(self):
        for names in (("x",), ("x", "y"), VARS, ("a", "abcdefgh", "z")):
            self.assertIsNone(place_of((names, ())))
        for names in ((), ("a", "b", "c", "d"), ("x", "x"), ("x", "y", "x"), ("",), ("abcdefghi",), ("X",), ("x1",),
                      ("1",), ("x", 1), ("x", None), (("x",),), ("x", ["y"])):
            self.assertEqual(place_of((names, ())), ("vars",))

    def test_pieces_none_to_six(self):
        six = tuple([piece(name) for name in "abcdef"])
        self.assertIsNone(place_of((VARS, ())))
        self.assertIsNone(place_of((VARS, six)))
        self.assertEqual(place_of((VARS, six + (piece("g"),))), ())

    def test_too_many_pieces_come_ahead_of_the_variables_and_these_ahead_of_a_piece(self):
        wrong = (("x", "x"), (None,) * 7)
        self.assertEqual(place_of(wrong), ())
        self.assertEqual(place_of((("x", "x"), (None,) * 6)), ("vars",))

    def test_not_a_triple(self):
        for thing in ((), ("p",), ("p", ()), ("p", (), (), ()), ["p", (), ()], ("p", [], ()), ("p", (), []),
                      ("p", (), None), (1, (), ()), ("P", (), ()), ("", (), ()), ("abcdefghi", (), ()), ("p2", (), ()),
                      (None, (), ()), None, "pqr"):
            self.assertEqual(place_of(book_with(thing)), (0,))
            self.assertEqual(place_of(book_with(piece("a"), thing, None)), (1,))

    def test_names_of_pieces(self):
        for name in ("a", "abcdefgh", "if", "piece", "vars", "token"):
            self.assertIsNone(place_of(book_with(piece(name))))
        self.assertEqual(place_of(book_with(piece("a"), piece("b"), piece("a"))), (2,))
        self.assertEqual(place_of(book_with(piece("a"), piece("a"), piece("a"))), (1,))

    def test_params(self):
        good = ((), (("c", "context"),), (("t", "token"),), (("c", "context"), ("t", "token")),
                (("a", "token"), ("abcdefgh", "token")))
        for params in good:
            self.assertIsNone(place_of(book_of(params=params)))
        bad = ((("a", "token"), ("b", "token"), ("c", "token")), (("a", "token"), ("a", "token")),
               (("a", "token"), ("a", "context")), ("a",), (("a",),), (("a", "token", 1),), (["a", "token"],),
               (("a", "piece"),), (("a", "Token"),), (("a", ""),), (("a", None),), (("a", 1),), (("A", "token"),),
               (("", "token"),), (("abcdefghi", "token"),), ((1, "token"),), (("a", ("token",)),), ("ab", "cd"))
        for params in bad:
            self.assertEqual(place_of(book_of(params=params)), (0,))

    def test_the_first_wrong_piece(self):
        wrong = piece("w", FAIL, ("nothing",))
        self.assertEqual(place_of(book_with(piece("a"), wrong, None)), (1, (1,)))
        self.assertEqual(place_of(book_with(wrong, wrong)), (0, (1,)))
        self.assertEqual(place_of(book_with(piece("a"), piece("a", ("nothing",)))), (1,))
        self.assertEqual(place_of(book_with(None, wrong)), (0,))
        self.assertEqual(place_of(book_with(("p", (("c", "piece"),), (("nothing",),)))), (0,))


class TestForms(unittest.TestCase):

    def test_each_form_stands_alone(self):
        for statement in FORMS:
            self.assertIsNone(place_of(book_of(statement)))

    def test_the_empty_block(self):
        empty = (("within", "c", ()), ("if", "x", 0, (), ()), ("with", "x", "x", ()), ("guard", (), ()))
        for statement in empty:
            self.assertIsNone(place_of(book_of(statement)))
        self.assertIsNone(place_of(book_of()))

    def test_a_part_too_few_and_one_too_many(self):
        loop = ("loop", (LEAVE, YIELD))
        for statement in FORMS + (YIELD, LEAVE):
            self.assertEqual(place_of(book_of(loop, statement[:-1])), (0, (1,)))
            for more in (1, "x", (), None):
                self.assertEqual(place_of(book_of(loop, statement + (more,))), (0, (1,)))

    def test_a_list_in_the_place_of_a_tuple(self):
        for statement in FORMS:
            self.assertEqual(place_of(book_of(FAIL, list(statement))), (0, (1,)))
            for at, part in enumerate(statement):
                if isinstance(part, tuple):
                    changed = statement[:at] + (list(part),) + statement[at + 1:]
                    self.assertEqual(place_of(book_of(FAIL, changed)), (0, (1,)))
        self.assertEqual(place_of(book_of(("if", "x", 1, (FAIL,), (FAIL, list(FAIL))))), (0, (0, 1, 1)))

    def test_words(self):
        for word in ("", "Set", "make", "step", "close", "piece", "sets", "set ", None, 0, ("fail",)):
            self.assertEqual(place_of(book_of((word,))), (0, (0,)))
            self.assertEqual(place_of(book_of((word, "x", 1))), (0, (0,)))
        self.assertEqual(place_of(book_of("fail")), (0, (0,)))

    def test_variables_are_names_of_vars(self):
        forms = (lambda v: ("set", v, 1), lambda v: ("hold", "t", v, 1), lambda v: ("drop", v), lambda v: ("show", v),
                 lambda v: ("if", v, 1, (), ()), lambda v: ("with", v, 1, ()), lambda v: ("set", "x", v),
                 lambda v: ("hold", "t", "x", v), lambda v: ("with", "x", v, ()))
        for form in forms:
            for variable in ("x", "abcdefgh"):
                self.assertIsNone(place_of(book_of(FAIL, form(variable), variables=("x", "abcdefgh"))))
            for variable in ("y", "p", "t", "", "X", "abcdefghi", "x1", None, ("x",), -1, 100, True):
                self.assertEqual(place_of(book_of(FAIL, form(variable), variables=("x",))), (0, (1,)))

    def test_a_variable_where_no_integer_may_be(self):
        for form in (("drop", 1), ("show", 1), ("set", 1, 1), ("if", 1, 1, (), ()), ("with", 1, 1, ())):
            self.assertEqual(place_of(book_of(form)), (0, (0,)))
        self.assertEqual(place_of(book_of(("if", "x", "y", (), ()))), (0, (0,)))

    def test_numbers(self):
        forms = (lambda n: ("set", "x", n), lambda n: ("hold", "t", "x", n), lambda n: ("with", "x", n, ()),
                 lambda n: ("if", "x", n, (), ()))
        for form in forms:
            for number in (0, 1, 50, 98, 99):
                self.assertIsNone(place_of(book_of(form(number))))
            for number in (-1, 100, HUGE, -HUGE, True, False, None, "1", (1,)):
                self.assertEqual(place_of(book_of(form(number))), (0, (0,)))

    def test_true_and_false_are_no_integers_after_an_equal_book(self):
        for form in (lambda n: ("set", "x", n), lambda n: ("hold", "t", "x", n), lambda n: ("with", "x", n, ()),
                     lambda n: ("if", "x", n, (), ())):
            for number, other in ((1, True), (0, False)):
                book, equal = book_of(form(number)), book_of(form(other))
                self.assertEqual(book, equal)
                self.assertIsNone(place_of(book))
                self.assertEqual(place_of(equal), (0, (0,)))
                self.assertIsNone(place_of(book))

    def test_slots(self):
        forms = (lambda s: ("hold", s, "x", 1), lambda s: ("reset", s), lambda s: ("copy", s),
                 lambda s: ("within", s, ()))
        for form in forms:
            for slot in ("a", "abcdefgh", "x", "p", "copy", "token"):
                self.assertIsNone(place_of(book_of(form(slot))))
            for slot in ("", "abcdefghi", "A", "aB", "a1", "1", "a_", " ", 1, None, ("a",)):
                self.assertEqual(place_of(book_of(FAIL, form(slot))), (0, (1,)))

    def test_one_name_for_a_variable_a_slot_and_a_piece(self):
        book = (("x",), (("x", (("x", "context"),), (("copy", "x"), ("set", "x", "x"), ("within", "x", ()))),))
        self.assertIsNone(place_of(book))


class TestCounts(unittest.TestCase):

    def test_sixteen_and_seventeen_side_by_side(self):
        self.assertIsNone(place_of(book_of(*[FAIL] * 16)))
        self.assertEqual(place_of(book_of(*[FAIL] * 17)), (0, (16,)))
        self.assertEqual(place_of(book_of(*[FAIL] * 40)), (0, (16,)))

    def test_those_in_blocks_are_counted(self):
        branch = ("if", "x", 1, (FAIL,) * 3, (FAIL,) * 3)
        self.assertIsNone(place_of(book_of(branch, branch, FAIL, FAIL)))
        self.assertEqual(place_of(book_of(branch, branch, FAIL, FAIL, FAIL)), (0, (4,)))
        self.assertEqual(place_of(book_of(FAIL, FAIL, FAIL, branch, branch)), (0, (4, 1, 2)))
        self.assertEqual(place_of(book_of(branch, branch, branch)), (0, (2, 0, 1)))

    def test_each_piece_has_its_own_count_and_kinds(self):
        many = [FAIL] * 15
        self.assertIsNone(place_of(book_with(piece("a", *many, ("copy", "s")), piece("b", *many, ("reset", "s")))))

    def test_within_four_and_within_five(self):
        for inner in (FAIL, ("set", "x", 1)):
            self.assertIsNone(place_of(book_of(around(inner, 4))))
            self.assertEqual(place_of(book_of(around(inner, 5))), (0, (0,) + (0, 0) * 5))
        self.assertIsNone(place_of(book_of(around(("guard", (), ()), 4))))
        self.assertEqual(place_of(book_of(FAIL, around(around(FAIL, 5), 3))), (0, (1,) + (0, 0) * 5))

    def test_each_block_counts_as_around(self):
        blocks = (lambda b: ("within", "c", b), lambda b: ("if", "x", 1, b, ()), lambda b: ("if", "x", 1, (), b),
                  lambda b: ("with", "x", 1, b), lambda b: ("guard", b, ()), lambda b: ("guard", (), b))
        for block in blocks:
            self.assertIsNone(place_of(book_of(block((around(FAIL, 3),)))))
            place = place_of(book_of(block((around(FAIL, 4),))))
            self.assertEqual((place[0], len(place[1]), place[1][-1]), (0, 11, 0))
        self.assertIsNone(place_of(book_of(("loop", (YIELD, around(FAIL, 3))))))
        self.assertEqual(place_of(book_of(("loop", (YIELD, around(FAIL, 4))))), (0, (0, 0, 1) + (0, 0) * 4))


class TestYieldsAndLeaves(unittest.TestCase):

    def test_a_yield_may_be_anywhere_but_within_a_within(self):
        for statement in (YIELD, around(YIELD, 4), ("with", "x", 1, (YIELD,)), ("if", "x", 1, (YIELD,), (YIELD,))):
            self.assertIsNone(place_of(book_of(statement)))
        self.assertEqual(place_of(book_of(("within", "c", (FAIL, YIELD)))), (0, (0, 0, 1)))
        self.assertEqual(place_of(book_of(("within", "c", (around(YIELD, 2),)))), (0, (0,) + (0, 0) * 3))
        self.assertEqual(place_of(book_of(around(("within", "c", (YIELD,)), 2))), (0, (0,) + (0, 0) * 3))
        self.assertIsNone(place_of(book_of(("within", "c", ()), YIELD)))

    def test_a_loop_has_a_yield_among_its_own_statements(self):
        for block in ((YIELD,), (FAIL, YIELD), (YIELD, FAIL), (around(YIELD, 1), YIELD)):
            self.assertIsNone(place_of(book_of(("loop", block))))
        for block in ((), (FAIL,), (around(YIELD, 1),), (("if", "x", 1, (YIELD,), (YIELD,)),),
                      (("loop", (YIELD,)),), (("yield", 1),), (["yield"],), ("yield",), (("Yield",),)):
            self.assertEqual(place_of(book_of(FAIL, ("loop", block), YIELD)), (0, (1,)))

    def test_a_loop_without_its_yield_comes_ahead_of_what_is_wrong_within_it(self):
        self.assertEqual(place_of(book_of(("loop", (("nothing",),)))), (0, (0,)))
        self.assertEqual(place_of(book_of(("loop", (("nothing",), YIELD)))), (0, (0, 0, 0)))
        self.assertEqual(place_of(book_of(("loop", (("loop", (FAIL,)), YIELD)))), (0, (0, 0, 0)))

    def test_the_yield_of_a_loop_may_be_wrong_itself(self):
        self.assertEqual(place_of(book_of(("within", "c", (("loop", (FAIL, YIELD)),)))), (0, (0, 0, 0, 0, 1)))
        self.assertEqual(place_of(book_of(around(("loop", (YIELD,)), 4))), (0, (0,) + (0, 0) * 5))
        self.assertEqual(place_of(book_of(*[FAIL] * 15, ("loop", (YIELD,)))), (0, (15, 0, 0)))

    def test_a_leave_within_a_loop(self):
        for statement in (LEAVE, around(LEAVE, 2), ("with", "x", 1, (LEAVE,)), ("if", "x", 1, (), (LEAVE,))):
            self.assertIsNone(place_of(book_of(("loop", (YIELD, statement)))))
        self.assertIsNone(place_of(book_of(("loop", (("loop", (YIELD, LEAVE)), LEAVE, YIELD)))))
        self.assertIsNone(place_of(book_of(around(("loop", (YIELD, around(LEAVE, 1))), 2))))

    def test_a_leave_within_no_loop(self):
        self.assertEqual(place_of(book_of(LEAVE)), (0, (0,)))
        self.assertEqual(place_of(book_of(around(LEAVE, 2))), (0, (0, 0, 0, 0, 0)))
        self.assertEqual(place_of(book_of(("loop", (YIELD,)), LEAVE)), (0, (1,)))

    def test_a_leave_within_a_within(self):
        self.assertEqual(place_of(book_of(("within", "c", (LEAVE,)))), (0, (0, 0, 0)))
        in_loop = ("loop", (YIELD, ("within", "c", (FAIL, LEAVE))))
        self.assertEqual(place_of(book_of(in_loop)), (0, (0, 0, 1, 0, 1)))
        deeper = ("loop", (YIELD, ("within", "c", (around(LEAVE, 1),))))
        self.assertEqual(place_of(book_of(deeper)), (0, (0, 0, 1, 0, 0, 0, 0)))

    def test_a_leave_of_a_loop_within_a_within(self):
        leave_first = ("within", "c", (("loop", (LEAVE, YIELD)),))
        self.assertEqual(place_of(book_of(leave_first)), (0, (0, 0, 0, 0, 0)))
        yield_first = ("within", "c", (("loop", (YIELD, LEAVE)),))
        self.assertEqual(place_of(book_of(yield_first)), (0, (0, 0, 0, 0, 0)))


class TestKinds(unittest.TestCase):

    contexts = (("copy", "s"), ("within", "s", ()))
    tokens = (("hold", "s", "x", 1), ("reset", "s"))

    def test_one_kind_again_and_again(self):
        for group, kind in ((self.contexts, "context"), (self.tokens, "token")):
            self.assertIsNone(place_of(book_of(*group, *group)))
            self.assertIsNone(place_of(book_of(*group, params=(("s", kind),))))

    def test_two_kinds_in_statements_in_both_orders(self):
        for one in self.contexts:
            for other in self.tokens:
                self.assertEqual(place_of(book_of(one, FAIL, other)), (0, (2,)))
                self.assertEqual(place_of(book_of(other, one)), (0, (1,)))

    def test_two_kinds_in_params_and_statements(self):
        for one in self.contexts:
            self.assertEqual(place_of(book_of(FAIL, one, params=(("a", "token"), ("s", "token")))), (0, (1,)))
        for one in self.tokens:
            self.assertEqual(place_of(book_of(one, params=(("s", "context"),))), (0, (0,)))

    def test_a_statement_around_is_met_ahead_of_those_within(self):
        self.assertEqual(place_of(book_of(("within", "s", (("reset", "s"),)))), (0, (0, 0, 0)))
        first, second = ("guard", (("copy", "s"),), ()), ("guard", (), (("reset", "s"),))
        self.assertEqual(place_of(book_of(first, second)), (0, (1, 1, 0)))
        self.assertEqual(place_of(book_of(second, first)), (0, (1, 0, 0)))
        both = ("guard", (("copy", "s"),), (("reset", "s"),))
        self.assertEqual(place_of(book_of(both)), (0, (0, 1, 0)))

    def test_other_slots_have_kinds_of_their_own(self):
        self.assertIsNone(place_of(book_of(("copy", "s"), ("reset", "t"), params=(("u", "token"), ("v", "context")))))


class TestTwoFaults(unittest.TestCase):

    def test_the_first_met_is_told(self):
        faults = (("nothing",), ("set", "w", 1), ("set", "x", 100), LEAVE, ("loop", ()), ("within", "c", (YIELD,)),
                  ["fail"], ("reset", "c"), ("copy", "c", "c"))
        for one in faults:
            for other in faults:
                book = book_of(FAIL, one, other, params=(("c", "context"),))
                place = place_of(book)
                self.assertEqual((place[0], place[1][0]), (0, 1))

    def test_within_ahead_of_behind(self):
        inner, behind = ("guard", (), (FAIL, ("nothing",))), ("set", "w", 1)
        self.assertEqual(place_of(book_of(inner, behind)), (0, (0, 1, 1)))
        self.assertEqual(place_of(book_of(behind, inner)), (0, (0,)))
        self.assertEqual(place_of(book_of(("guard", (FAIL, behind), (behind,)))), (0, (0, 0, 1)))

    def test_the_statement_around_ahead_of_those_within(self):
        for outer in (("with", "w", 1, (("nothing",),)), ("if", "x", 100, (("nothing",),), ()),
                      ("guard", (("nothing",),), []), ("within", "C", (YIELD,)), ("loop", (LEAVE, ("nothing",)))):
            self.assertEqual(place_of(book_of(outer)), (0, (0,)))

    def test_the_seventeenth_and_another(self):
        self.assertEqual(place_of(book_of(*[FAIL] * 15, ("nothing",), FAIL)), (0, (15,)))
        self.assertEqual(place_of(book_of(*[FAIL] * 16, ("nothing",), ("nothing",))), (0, (16,)))

    def test_the_fifth_around_and_another(self):
        self.assertEqual(place_of(book_of(around(FAIL, 5), ("nothing",))), (0, (0,) + (0, 0) * 5))
        self.assertEqual(place_of(book_of(("nothing",), around(FAIL, 5))), (0, (0,)))


if __name__ == "__main__":
    unittest.main()

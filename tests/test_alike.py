"""Pieces that are alike and pieces that are not, [20] to [22], by hand: the facts of [28], bounds, refusals, classes."""

import re
import unittest

from own_player import turns_of
from samples import Hostile, odd_tuples, odd_values
from stepwhere import alike
from stepwhere.alike import are_alike, are_comparable, classes, parting, turns_to_part
from stepwhere.booktexts import book_text, read_book
from stepwhere.errors import BadBook, BadQuestion, TooGreat
from stepwhere.forms import is_name
from stepwhere.pieces import is_book, statements_of
from stepwhere.play import play, play_with
from stepwhere.programs import calls_in, need_program
from stepwhere.programtexts import program_text, read_program
from stepwhere.telling import PIECE_SLOT, slot_at

BAD_BOOK = (("x",), (("p", (), (("nothing",),)),))
ASKED = (are_alike, parting, turns_to_part)

# Blocks in which t and c do not occur, alone and behind one another.
BLOCKS = ("", "fail", "yield", "show x", "show y", "set x 1", "set y x", "drop x ; yield", "yield ; show x",
          "with x 2 { yield }", "guard { with y 1 { yield } } { show y }", "loop { yield ; show x }", "leave",
          "hold s x 3 ; yield ; reset s", "copy d ; yield ; within d { show x }", "within d { fail }", "reset s")


def words_in(steps, word):
    """The steps with that word in a program, those in blocks too."""
    found = [step for step in steps if step[0] == word]
    for step in steps:
        if step[0] in ("within", "guard"):
            found.extend(words_in(step[-1], word))
    return found


def exchanged(text, words):
    """The text with other words for these."""
    return re.sub(r"[a-z0-9]+", lambda found: words.get(found[0], found[0]), text)


class AlikeCase(unittest.TestCase):

    def book(self, one, other, params="", variables="x y"):
        pieces = [f"; piece {name} {params} {{ {rows} }}" for name, rows in (("p", one), ("q", other))]
        return read_book("vars " + variables + "".join(pieces))

    def assert_alike(self, one, other, params="", variables="x y"):
        self.assert_book_alike(self.book(one, other, params, variables))

    def assert_book_alike(self, book):
        for first, second in (("p", "q"), ("q", "p")):
            self.assertIs(are_alike(book, first, second), True, book_text(book))
            self.assertIsNone(parting(book, first, second))
            self.assertIsNone(turns_to_part(book, first, second))

    def assert_parted(self, turns, one, other, params="", variables="x y"):
        self.assert_book_parted(turns, self.book(one, other, params, variables))

    def assert_book_parted(self, turns, book):
        for first, second in (("p", "q"), ("q", "p")):
            self.assertIs(are_alike(book, first, second), False, book_text(book))
            program = parting(book, first, second)
            self.assert_parting(book, first, second, program)
            self.assertEqual(turns_to_part(book, first, second), turns, book_text(book))
            self.assertEqual(calls_in(book, program), turns, program_text(book, program))

    def assert_parting(self, book, first, second, program):
        """A program of the book with one "make", of the first, whose log is another one with the second."""
        need_program(book, program)
        self.assertEqual([step[2] for step in words_in(program, "make")], [first])
        self.assertNotEqual(play(book, program), play_with(book, program, first, second), program_text(book, program))
        text = program_text(book, program)
        self.assertLessEqual(len(text), 300000)
        self.assertEqual(read_program(book, text), program)
        self.assertEqual(len(turns_of(book, program)), calls_in(book, program))


class TestFacts(AlikeCase):

    def assert_fact(self, one, other, variables="x y"):
        """Alike if both are pieces within the bounds, also with x and y exchanged and with other integers."""
        told = 0
        for names in ({}, {"x": "y", "y": "x"}):
            for numbers in ({"7": "0", "8": "1"}, {"7": "1", "8": "0"}, {"7": "1", "8": "1"}):
                texts = [exchanged(text, {**names, **numbers}) for text in (one, other)]
                try:
                    book = self.book(*texts)
                except BadBook:
                    continue
                if max(len(statements_of(book, name)) for name in ("p", "q")) <= alike.MOST_ASKED:
                    self.assert_book_alike(book)
                    told += 1
        return told

    def test_each_piece_is_alike_to_itself(self):
        for block in BLOCKS:
            if "leave" not in block:
                self.assert_alike(block, block)
        book = self.book("show x", "")
        self.assertIs(are_alike(book, "p", "p"), True)
        self.assertIsNone(parting(book, "p", "p"))
        self.assertIsNone(turns_to_part(book, "p", "p"))

    def test_pairs_without_blocks(self):
        for one, other in (("set x 7 ; set x 8", "set x 8"), ("set x 7 ; drop x", "drop x"),
                           ("hold t x 7 ; reset t", ""), ("with x 7 { set y 8 }", "set y 8"),
                           ("copy c ; within c { set x 7 }", ""), ("yield", "guard { yield } { yield }")):
            self.assertEqual(self.assert_fact(one, other), 6)

    def test_pairs_with_a_block(self):
        for pattern, plain in (("guard {{ fail }} {{ {} }}", "{}"), ("if x 7 {{ {} }} {{ {} }}", "{}"),
                               ("guard {{ yield }} {{ fail }} ; {}", "yield ; {}")):
            told = 0
            for first in BLOCKS:
                for second in BLOCKS:
                    block = first + " ; " + second if first and second else first + second
                    shown = pattern.format(block, block) if block else pattern.replace("; {}", "").format("", "")
                    other = plain.format(block) if block else plain.replace("; {}", "").format("")
                    told += self.assert_fact(shown, other)
            self.assertGreater(told, 500)

    def test_pairs_with_one_variable_and_with_a_loop_around(self):
        self.assert_alike("set x 7 ; set x 8", "set x 8", variables="x")
        self.assert_alike("loop { set x 7 ; set x 8 ; yield }", "loop { set x 8 ; yield }")
        self.assert_alike("loop { yield ; if x 0 { leave } { leave } }", "loop { yield ; leave }")

    def test_pairs_that_are_parted_in_two_turns(self):
        for names in ("xy", "yx"):
            for number in ("0", "5", "99"):
                table = {"x": names[0], "n": number}
                for other in ("hold t x n ; yield ; reset t", "guard { with x n { yield } } { fail }",
                              "with x n { yield ; yield }"):
                    texts = [exchanged(text, table) for text in ("with x n { yield }", other)]
                    self.assert_parted(2, *texts)
                    self.assert_parted(2, *texts, variables=names[0])


class TestByHand(AlikeCase):

    def test_alike_ones(self):
        for one, other in (
                ("", "guard { } { fail }"), ("", "with x 1 { }"), ("", "guard { with x y { } } { }"),
                ("", "if x 1 { } { }"), ("", "if x 1 { set x 1 } { }"), ("", "copy c"), ("", "guard { within c { } } { }"),
                ("", "copy c ; hold t x 3 ; reset t"), ("fail", "guard { fail } { fail }"),
                ("show x", "if x 1 { show x } { show x }"), ("set y x", "if x 1 { set y 1 } { set y x }"),
                ("set y x ; drop y", "set y x ; set x y ; drop y"), ("set x 1", "hold t x 1 ; hold t x 2 ; reset t"),
                ("set x 1", "hold t x 1"), ("show x ; show x", "show x ; guard { show x } { fail }"),
                ("drop x ; show x", "drop x ; set y x"), ("within c { }", "within d { fail }"),
                ("reset t", "within c { }"), ("copy c ; within c { within c { } }", "copy c ; within c { within c { fail } }"),
                ("loop { yield }", "copy c ; loop { yield ; within c { if x 1 { set x 2 } { set x 1 } } }"),
                ("loop { yield }", "loop { yield ; guard { yield } { fail } ; yield }"),
                ("yield ; set x 1", "guard { yield } { show y } ; set x 1"), ("yield", "if x 1 { yield } { yield }"),
                ("with x 1 { with x 2 { } }", ""), ("with x 1 { show x }", "with x 1 { with y 2 { show x } }"),
                ("hold s x 1 ; hold t x 2 ; reset t ; reset s", ""), ("hold s x 1 ; hold t x 2 ; reset s", ""),
                ("if x 1 { if x 2 { fail } { } } { }", ""), ("set x 1 ; if x 1 { } { fail }", "set x 1"),
                ("drop x ; if x 1 { fail } { }", "drop x"), ("loop { leave ; yield }", ""),
                ("loop { yield ; leave ; yield }", "yield"), ("fail ; show x ; yield", "fail")):
            self.assert_alike(one, other)

    def test_what_a_single_turn_tells(self):
        for one, other in (
                ("", "yield"), ("", "fail"), ("", "show x"), ("", "set x 1"), ("set x 1", "set x 2"), ("set x 1", "set y 1"),
                ("", "set x x"), ("set x y", "set y x"), ("drop x", "set x 0"), ("drop x", ""), ("show x", "show y"),
                ("show x", "show x ; show x"), ("fail", "show x"), ("within c { }", "fail"), ("fail", "reset t"),
                ("", "if x 1 { set x 2 } { }"), ("", "if x 99 { set y 1 } { }"), ("with x y { }", ""),
                ("if x 0 { } { set x 1 }", ""), ("set x 1 ; show x", "show x ; set x 1"), ("yield", "fail"),
                ("hold s x 1 ; hold t y 2 ; reset s", "hold s x 1 ; hold t y 2 ; reset t"),
                ("copy c ; set x 1 ; within c { show x }", "set x 1 ; copy c ; within c { show x }"),
                ("set x 1 ; fail", "fail"), ("guard { show x } { }", "guard { show x } { fail }")):
            self.assert_parted(1, one, other)

    def test_what_two_turns_tell(self):
        for one, other in (
                ("yield", "yield ; yield"), ("yield", "yield ; fail"), ("yield", "yield ; set x 1"),
                ("yield ; show x", "yield ; show y"), ("yield", "loop { yield }"), ("set x 1 ; yield", "with x 1 { yield }"),
                # Where a piece stands in a guard is seen by what it does next, or by a closing.
                ("guard { yield ; fail } { }", "yield ; fail"), ("guard { yield ; fail } { show x }", "yield ; show x ; fail"),
                # By what a token or a copy remembers.
                ("hold t x 1 ; yield ; reset t", "set x 1 ; hold t x 1 ; yield ; reset t"),
                ("copy c ; yield ; within c { show x }", "copy c ; yield ; show x"),
                ("copy c ; yield ; within c { show x }", "yield ; copy c ; within c { show x }"),
                ("copy c ; yield ; within c { set y x ; show y }", "copy c ; yield ; within c { show y }"),
                # By the context in which the second turn is.
                ("hold t x 1 ; yield ; reset t", "hold t x 1 ; yield ; guard { reset t } { fail }"),
                ("with x 1 { yield }", "guard { with x 1 { yield } } { }"),
                # By a closing alone.
                ("with x 1 { yield }", "guard { with x 1 { yield } } { yield }"),
                ("guard { with x 1 { yield } } { show x }", "guard { with x 1 { yield } } { show y }"),
                ("with x 1 { guard { yield } { } }", "hold t x 1 ; yield ; reset t")):
            self.assert_parted(2, one, other)

    def test_tokens_of_a_context_of_the_pieces_own(self):
        one = "copy c ; within c { hold t x 1 } ; yield ; within c { reset t ; show x }"
        self.assert_parted(2, one, "copy c ; within c { hold t x 1 } ; yield ; within c { show x }")
        self.assert_alike(one, "copy c ; yield ; within c { show x }")
        self.assert_alike(one, "copy d ; within d { hold s x 1 } ; yield ; within d { reset s ; show x }")
        # Of a context that no slot holds any more a token comes to nothing.
        lost = "copy c ; within c { hold t x 1 } ; copy c ; yield ; within c { reset t }"
        self.assert_alike(lost, "copy c ; within c { hold t x 1 } ; copy c ; yield ; reset t")
        self.assert_parted(2, lost, "copy c ; within c { hold t x 1 } ; yield ; within c { reset t }")
        self.assert_parted(2, lost, "copy c ; within c { hold t x 1 } ; copy c ; yield ; fail")
        # Two of them are two.
        self.assert_parted(2, "copy c ; copy d ; within c { hold t x 1 } ; yield ; within d { reset t }",
                           "copy c ; copy d ; within c { hold t x 1 } ; yield ; within c { reset t }")
        self.assert_parted(2, "copy c ; within c { set x 1 } ; copy d ; yield ; within c { show x }",
                           "copy c ; within c { set x 1 } ; copy d ; yield ; within d { show x }")

    def test_a_token_that_was_used_a_turn_ahead(self):
        one = "hold t x 1 ; reset t ; yield ; reset t"
        # It is another word of the failure alone where the token is one of another context.
        self.assert_parted(2, one, "copy c ; within c { hold t x 1 } ; yield ; reset t")
        self.assert_parted(2, one, "yield ; reset t")
        self.assert_alike(one, one + " ; set x 1")
        self.assert_alike(one, "hold s x 1 ; reset s ; yield ; guard { fail } { reset s }")
        self.assert_alike("yield ; " + one, "yield ; hold s x 2 ; reset s ; yield ; reset s")

    def test_slots_that_are_used_only_behind_a_failure(self):
        for one, rows in (("copy c ; guard {{ yield ; fail }} {{ within c {{ {} }} }}", "show x"),
                          ("hold t x 1 ; guard {{ yield ; fail }} {{ {} }}", "reset t")):
            self.assert_parted(2, one.format(rows), one.format(""))
            self.assert_parted(2, one.format(rows), one.format("fail"))
        self.assert_alike("with x 1 { guard { yield ; fail } { } }", "with x 1 { yield }")

    def test_what_is_seen_only_far_on(self):
        self.assert_parted(3, "with x 0 { copy c } ; loop { yield ; within c { if x 3 { fail } { set x 3 } } }",
                           "loop { yield }")
        for many in range(1, 8):
            self.assert_parted(many + 1, " ; ".join(["yield"] * many), " ; ".join(["yield"] * (many + 1)))
            self.assert_parted(many + 1, " ; ".join(["yield"] * many), "loop { yield }")
        self.assert_parted(3, "set x 1 ; copy c ; yield ; within c { set x 2 } ; yield ; within c { show x }",
                           "set x 1 ; copy c ; yield ; yield ; within c { show x }")

    def test_values_that_no_piece_names(self):
        self.assert_alike("if x 1 { show x } { if x 2 { show x } { show x } }", "show x")
        self.assert_parted(1, "if x 1 { show x } { if x 2 { show x } { fail } }", "show x")
        self.assert_parted(1, "if x 1 { } { if x 2 { } { show y } }", "if x 1 { } { }")
        every = "if x 0 { } { if x 1 { } { if x 2 { } { set y 1 } } }"
        self.assert_parted(1, every, every.replace("set y 1", ""))
        self.assert_parted(1, every, every.replace("set y 1", "set y 2"))

    def test_a_variable_that_is_unset(self):
        self.assert_parted(1, "guard { set x x } { show y }", "")
        self.assert_parted(1, "guard { set y x } { set y 5 }", "set y x")
        self.assert_alike("guard { set y x } { set y x }", "set y x")


class TestParams(AlikeCase):

    def test_a_context(self):
        for one, other in (("within c { }", "within c { within c { } }"), ("within c { set x 1 }", "within c { }"),
                           ("within c { set x 1 }", "set x 1 ; within c { set x 1 }"), ("within c { }", ""),
                           ("within c { show x }", "within c { show y }")):
            self.assert_parted(1, one, other, "c context")
        for one, other in (("copy c ; within c { set x 1 }", ""), ("within c { set x 1 ; set x 2 }", "within c { set x 2 }"),
                           ("guard { within c { } } { within c { } }", "within c { }"),
                           ("within c { copy c ; set x 1 } ; within c { set x 2 }", "within c { set x 1 }")):
            self.assert_alike(one, other, "c context")
        self.assert_parted(2, "yield ; within c { }", "yield ; guard { within c { } } { fail }", "c context")

    def test_entered_alone(self):
        # Where nothing is handed over both fail with "empty" at the second one.
        one = "guard { within c { set x 1 } } { within c { set x 2 } }"
        self.assert_alike(one, "within c { set x 1 }", "c context")
        self.assert_parted(1, "guard { within c { set x 1 } } { within d { } }",
                           "guard { within c { set x 1 } } { within c { } }", "c context")
        program = parting(self.book("copy d ; guard { within c { } } { within d { } ; within c { } }",
                                    "copy d ; within c { }", "c context"), "p", "q")
        self.assertIsNone(program)
        book = self.book("guard { within c { show x } } { }", "guard { within c { show x ; show x } } { }", "c context")
        self.assert_book_parted(1, book)

    def test_in_use_around_the_current_one(self):
        # Behind the reset the current context is not c: told apart only where c is in use around it.
        one = "guard { within c { } } { fail } ; hold t x 1 ; yield ; reset t"
        for params in ("c context", "c context d context", "d context c context", "c context s token"):
            self.assert_parted(2, one, one + " ; within c { }", params)

    def test_a_token(self):
        for one, other in (("reset t", ""), ("reset t", "guard { reset t } { fail }"), ("reset t", "guard { reset t } { }"),
                           ("reset t", "hold t x 1 ; reset t"), ("reset t", "reset t ; set x 1")):
            self.assert_parted(1, one, other, "t token")
        for one, other in (("reset t", "guard { reset t } { reset t }"), ("hold t x 1 ; reset t", ""),
                           ("reset t ; reset t", "reset t ; guard { reset t } { reset t }"),
                           ("reset t ; reset t ; yield", "reset t ; reset t"),
                           ("set x 1 ; guard { reset t } { }", "set x 2 ; set x 1 ; guard { reset t } { }")):
            self.assert_alike(one, other, "t token")

    def test_a_token_that_is_used_ahead_or_between(self):
        self.assert_parted(2, "reset t ; yield", "reset t ; yield ; set x 1", "t token")
        self.assert_parted(1, "yield", "guard { reset t } { } ; yield", "t token")
        self.assert_parted(2, "yield ; reset t", "yield ; guard { reset t } { fail }", "t token")
        # Only what "used" does is another thing: empty and elsewhere lead to the same.
        self.assert_alike("guard { reset t ; fail } { reset t }", "guard { reset t ; fail } { guard { reset t } { reset t } }",
                          "t token")

    def test_a_token_that_one_of_the_two_uses(self):
        # Nothing is another one behind the turn but that the token was used.
        for variables, rows in (("x", "set x 5"), ("x y", "set x 5 ; set y 5"), ("x y", "drop y ; set x 0")):
            self.assert_parted(1, "guard { reset t } { } ; " + rows, rows, "t token", variables)
            self.assert_parted(2, "yield ; guard { reset t } { } ; " + rows, "yield ; " + rows, "t token", variables)
            self.assert_parted(1, f"guard {{ reset s }} {{ }} ; {rows}", f"guard {{ reset t }} {{ }} ; {rows}",
                               "s token t token", variables)

    def test_a_token_that_was_used_in_a_turn_ahead(self):
        one = "reset t ; yield ; reset t"
        self.assert_alike(one, one + " ; set x 1", "t token")
        self.assert_alike(one, one + " ; set x 1", "s token t token")
        self.assert_parted(2, one, "reset t ; yield ; fail", "t token")
        self.assert_parted(2, one, "reset t ; yield ; hold t x 1 ; reset t", "t token")
        # Used up by the program ahead of the first turn: where the reset of s succeeds that of t cannot.
        one = "hold s x 0 ; guard {{ reset t }} {{ yield ; reset s ; reset t {} }}"
        self.assert_alike(one.format("; fail"), one.format(""), "t token")
        self.assert_parted(2, one.replace("reset s ;", "").format("; fail"), one.replace("reset s ;", "").format(""), "t token")

    def test_which_variable_and_context_a_token_is_of(self):
        for variable in "xy":
            one = f"with {variable} 3 {{ guard {{ reset t }} {{ }} ; if {variable} 3 {{ }} {{ fail }} }}"
            other = f"with {variable} 3 {{ guard {{ reset t }} {{ }} }}"
            self.assert_parted(1, one, other, "t token")
            self.assert_parted(1, one, other, "s token t token")
        # In c, and in another context than c, which is the current one behind it.
        for params in ("c context t token", "t token c context"):
            self.assert_parted(1, "within c { reset t ; fail }", "within c { reset t }", params)
            self.assert_parted(1, "within c { } ; guard { within c { reset t } } { reset t ; fail }",
                               "within c { } ; guard { within c { reset t } } { reset t }", params)

    def test_the_second_token_behind_a_turn_that_uses_the_first(self):
        for variables, behind in (("x", "set x 5"), ("x y", "set x 5 ; drop y")):
            rows = "guard { reset s } { } ; yield ; guard { reset t } { } ; " + behind
            # Here both are handed over: the program tries the second one, the first is used in any case.
            self.assert_parted(2, "reset s ; yield ; guard { reset t } { } ; " + behind, "reset s ; yield ; " + behind,
                               "s token t token", variables)
            self.assert_parted(2, rows, rows.replace("guard { reset t } { } ;", ""), "s token t token", variables)
            self.assert_parted(2, rows, rows.replace("reset t", "reset s"), "s token t token", variables)
            self.assert_parted(2, "guard { reset s } { } ; yield ; reset t", "guard { reset s } { } ; yield ; fail",
                               "s token t token", variables)

    def test_two_tokens_of_one_context_and_of_two(self):
        rows = "guard {{ reset s }} {{ fail }} ; yield ; guard {{ reset t }} {{ {} }}"
        self.assert_parted(2, rows.format("reset t"), rows.format("set x 5"), "s token t token")
        self.assert_parted(1, "reset s ; reset t ; fail", "reset s ; reset t", "s token t token")

    def test_two_params(self):
        for one, other, params in (
                ("within c { set x 1 }", "within d { set x 1 }", "c context d context"),
                ("guard { reset s } { } ; guard { reset t } { }", "guard { reset t } { } ; guard { reset s } { }",
                 "s token t token"),
                ("within c { reset t }", "reset t", "c context t token"),
                ("within c { reset t }", "reset t", "t token c context")):
            self.assert_parted(1, one, other, params)
        # By one context that is handed over twice, by one token that is.
        one = "guard { within c { set x 1 } } { } ; guard { within d { set x 2 } } { }"
        other = "guard { within d { set x 2 } } { } ; guard { within c { set x 1 } } { }"
        self.assert_parted(1, one, other, "c context d context")
        self.assert_parted(1, "within c { within d { } }", "within c { } ; within d { }", "c context d context")
        self.assert_parted(1, "reset s ; reset t", "reset s ; guard { reset t } { fail }", "s token t token")
        self.assert_alike("within c { set x 1 } ; within d { set y 1 }", "within c { set x 1 } ; within d { set y 1 ; set y 1 }",
                          "c context d context")
        self.assert_alike("guard { reset s } { reset s }", "reset s", "s token t token")

    def test_other_names_of_slots(self):
        text = "vars x y ; piece p c context t token { within c { reset t } ; hold s x 1 ; yield ; reset s }"
        other = "; piece q t context q token { within t { reset q } ; hold p x 1 ; yield ; reset p }"
        self.assert_book_alike(read_book(text + other))
        self.assert_book_parted(2, read_book(text + other.replace("reset p", "set x 1")))

    def test_params_that_are_not_used(self):
        for params in ("c context", "t token", "c context d context", "s token t token", "c context t token"):
            self.assert_alike("", "guard { } { }", params)
            self.assert_parted(1, "", "fail", params)


class TestSlots(unittest.TestCase):

    def test_slots_of_many_numbers_are_different_names(self):
        slots = [slot_at(letter, number) for letter in "ctn" for number in range(2000)]
        self.assertEqual(len(set(slots)), len(slots))
        self.assertNotIn(PIECE_SLOT, slots)
        for slot in slots:
            self.assertTrue(is_name(slot), slot)


class TestTheBook(AlikeCase):

    def test_other_pieces_change_nothing(self):
        long = " ; ".join(["loop { yield ; set x 3 ; set y 7 }"] * 4)
        for one, other in (("with x 1 { yield }", "hold t x 1 ; yield ; reset t"), ("set x 1 ; set x 2", "set x 2"),
                           ("if x 3 { set y 1 } { }", "")):
            alone = self.book(one, other)
            among = (alone[0], (("a", (), read_book("vars x y; piece a {" + long + "}")[1][0][2]), alone[1][1],
                                ("b", (("c", "token"),), ()), alone[1][0]))
            self.assertTrue(is_book(among))
            for ask in ASKED:
                for pair in (("p", "q"), ("q", "p")):
                    self.assertEqual(ask(alone, *pair), ask(among, *pair))

    def test_another_order_of_the_variables(self):
        for one, other, turns in (("set x 1", "set y 1", 1), ("with x y { yield }", "with x y { yield ; yield }", 2)):
            self.assert_parted(turns, one, other, variables="x y")
            self.assert_parted(turns, one, other, variables="y x")
            self.assert_parted(turns, *[exchanged(text, {"y": "z"}) for text in (one, other)], variables="z x")

    def test_nothing_is_changed_and_the_answer_is_told_again(self):
        book = self.book("with x 1 { yield }", "with x 1 { yield ; yield }")
        text, program = book_text(book), parting(book, "p", "q")
        for _ in range(2):
            self.assertEqual(parting(book, "p", "q"), program)
        self.assertEqual(book_text(book), text)


class TestClasses(AlikeCase):

    def test_none_and_one(self):
        self.assertEqual(classes(read_book("vars x")), [])
        self.assertEqual(classes(read_book("vars x; piece a { fail }")), [["a"]])

    def test_piece_by_piece_in_the_order_of_the_book(self):
        book = read_book("vars x; piece f { set x 1 }; piece e {}; piece d { set x 2 ; set x 1 }; piece c { drop x };"
                         "piece b { guard { } { } }; piece a { hold t x 1 }")
        self.assertEqual(classes(book), [["f", "d", "a"], ["e", "b"], ["c"]])

    def test_what_is_not_comparable(self):
        book = read_book("vars x; piece a {}; piece b c context {}; piece c t token {}; piece d c context t token {};"
                         "piece e t token c context {}; piece f b context {}")
        self.assertEqual(classes(book), [["a"], ["b", "f"], ["c"], ["d"], ["e"]])

    def test_the_lists_are_the_callers_own(self):
        book = read_book("vars x; piece a {}; piece b {}")
        told = classes(book)
        told[0].append("c")
        told.append(["d"])
        self.assertEqual(classes(book), [["a", "b"]])


class TestRefusals(AlikeCase):

    def setUp(self):
        nine = " ; ".join(["fail"] * 9)
        self.asked = read_book("vars x y; piece a {}; piece b { " + nine + " }; piece c c context {};"
                              "piece d c context { " + nine + " }; piece e { fail ; " + nine + " }; piece f t token {}")
        self.three = read_book("vars x y z; piece a {}; piece b {}; piece c t token {}")

    def refused(self, ask, *parts):
        try:
            ask(*parts)
        except (BadBook, TooGreat) as error:
            return type(error), error.place
        except BadQuestion:
            return BadQuestion, None
        return None

    def test_constants(self):
        self.assertEqual((alike.MOST_ASKED, alike.MOST_VARS_ASKED), (8, 2))

    def test_bad_book_first(self):
        for ask in ASKED + (are_comparable,):
            for thing in odd_values() + odd_tuples():
                self.assertEqual(self.refused(ask, thing, None, "x")[0], BadBook)
            self.assertEqual(self.refused(ask, BAD_BOOK, "z", None), (BadBook, (0, (0,))))
        for thing in odd_values() + odd_tuples():
            self.assertEqual(self.refused(classes, thing)[0], BadBook)
        self.assertEqual(self.refused(classes, (("x", "y", "z"), BAD_BOOK[1])), (BadBook, (0, (0,))))

    def test_then_bad_question_of_names(self):
        for ask in ASKED + (are_comparable,):
            for thing in odd_values() + odd_tuples() + ["x", "z", "A", 0]:
                for book in (self.asked, self.three):
                    for pair in ((thing, "a"), ("a", thing), (thing, thing), (thing, Hostile()), ("b", thing)):
                        self.assertEqual(self.refused(ask, book, *pair), (BadQuestion, None))

    def test_then_bad_question_of_what_is_not_comparable(self):
        for ask in ASKED:
            for pair in (("a", "c"), ("c", "a"), ("b", "d"), ("c", "f"), ("a", "f"), ("e", "d")):
                self.assertEqual(self.refused(ask, self.asked, *pair), (BadQuestion, None))
            self.assertEqual(self.refused(ask, self.three, "a", "c"), (BadQuestion, None))

    def test_then_too_great(self):
        for ask in ASKED:
            self.assertEqual(self.refused(ask, self.three, "a", "b"), (TooGreat, ("vars",)))
            self.assertEqual(self.refused(ask, self.three, "a", "a"), (TooGreat, ("vars",)))
            for pair, place in ((("a", "b"), 1), (("b", "a"), 1), (("c", "d"), 3), (("b", "e"), 1), (("e", "b"), 4),
                                (("e", "e"), 4), (("e", "a"), 4)):
                self.assertEqual(self.refused(ask, self.asked, *pair), (TooGreat, (place,)), pair)
        self.assertEqual(self.refused(classes, self.three), (TooGreat, ("vars",)))
        self.assertEqual(self.refused(classes, self.asked), (TooGreat, (1,)))
        both = ("x", "y", "z"), self.asked[1]
        self.assertEqual(self.refused(are_alike, both, "b", "a"), (TooGreat, ("vars",)))
        self.assertEqual(self.refused(classes, both), (TooGreat, ("vars",)))
        self.assertEqual(self.refused(classes, (("x", "y", "z"), ())), (TooGreat, ("vars",)))

    def test_statements_in_blocks_count(self):
        eight = "guard { guard { guard { fail } { } } { fail } } { fail ; fail ; fail }"
        self.assert_alike(eight, "")
        book = self.of_one(eight.replace("{ } }", "{ fail } }"))
        self.assertEqual(self.refused(are_alike, book, "p", "q"), (TooGreat, (0,)))
        self.assertEqual(self.refused(are_alike, book, "q", "p"), (TooGreat, (0,)))

    def of_one(self, rows):
        return read_book("vars x; piece p { " + rows + " }; piece q {}")

    def test_comparable_has_no_bounds(self):
        self.assertIs(are_comparable(self.three, "a", "b"), True)
        self.assertIs(are_comparable(self.three, "a", "c"), False)
        for pair, told in ((("a", "b"), True), (("b", "e"), True), (("c", "d"), True), (("a", "c"), False),
                           (("c", "f"), False), (("d", "d"), True)):
            self.assertIs(are_comparable(self.asked, *pair), told)
            self.assertIs(are_comparable(self.asked, *reversed(pair)), told)

    def test_the_order_of_kinds_counts_and_slots_do_not(self):
        book = read_book("vars x; piece a c context t token {}; piece b t token c context {};"
                         "piece c s context c token {}; piece d c context d context {}; piece e c context {}")
        for pair, told in ((("a", "b"), False), (("a", "c"), True), (("a", "d"), False), (("d", "e"), False),
                           (("b", "c"), False)):
            self.assertIs(are_comparable(book, *pair), told, pair)

    def test_arguments_by_position(self):
        book = self.asked
        self.assertIs(are_alike(book, "a", "a"), True)


if __name__ == "__main__":
    unittest.main()

"""The texts of books, [12] and [13]: what is written, what is read, and which word of another text is wrong."""

import random
import re
import unittest

import grammar
from samples import FORMS, Hostile, VARS, around, book_of, odd_tuples, odd_values
from stepwhere.booktexts import book_text, read_book
from stepwhere.errors import BadBook, BadText
from stepwhere.pieces import need_book

WORDS = ("vars", "piece", "context", "token", "set", "hold", "reset", "drop", "show", "copy", "within", "if", "with",
         "guard", "loop", "leave", "yield", "fail")
EXAMPLE = "vars x ; piece a c context { set x 5 ; within c { show x } ; yield }"
EXAMPLE_BOOK = (("x",), (("a", (("c", "context"),), (
    ("set", "x", 5), ("within", "c", (("show", "x"),)), ("yield",))),))

# What each form is as text, in the order of samples.FORMS.
FORM_TEXTS = (
    "set x 5",
    "hold t x y",
    "reset t",
    "drop x",
    "show x",
    "copy c",
    "within c { fail }",
    "if x 7 { fail } { fail ; show z }",
    "with x 5 { fail }",
    "guard { fail } { show y }",
    "loop { yield ; leave ; yield }",
    "fail",
)


def expected_place(text):
    return grammar.expected_place(text, "book")


def place_of_text(text):
    """The place of BadText, or None of what is a text of a book or what would be one but for its counts and names."""
    try:
        read_book(text)
    except BadText as error:
        return error.place
    except BadBook:
        return None
    return None


def piece_text(rows):
    return "vars x y z ; piece p { " + rows + " }"


class TestWritten(unittest.TestCase):

    def test_the_example(self):
        self.assertEqual(book_text(EXAMPLE_BOOK), EXAMPLE)
        self.assertEqual(read_book(EXAMPLE), EXAMPLE_BOOK)

    def test_each_form(self):
        for statement, text in zip(FORMS, FORM_TEXTS):
            self.assertEqual(book_text(book_of(statement)), piece_text(text))
            self.assertEqual(read_book(piece_text(text)), book_of(statement))

    def test_all_forms_of_one_another(self):
        for one, text in zip(FORMS, FORM_TEXTS):
            for other, behind in zip(FORMS, FORM_TEXTS):
                self.assertEqual(book_text(book_of(one, other)), piece_text(text + " ; " + behind))
                self.assertEqual(read_book(piece_text(text + ";" + behind)), book_of(one, other))

    def test_no_pieces_and_no_statements(self):
        for book, text in (((("x",), ()), "vars x"), ((VARS, ()), "vars x y z"), (book_of(), "vars x y z ; piece p { }")):
            self.assertEqual(book_text(book), text)
            self.assertEqual(read_book(text), book)

    def test_empty_blocks(self):
        for statement, text in ((("within", "c", ()), "within c { }"), (("if", "x", 0, (), ()), "if x 0 { } { }"),
                                (("with", "x", "y", ()), "with x y { }"), (("guard", (), ()), "guard { } { }"),
                                (("guard", (("fail",),), ()), "guard { fail } { }")):
            self.assertEqual(book_text(book_of(statement)), piece_text(text))
            self.assertEqual(read_book(piece_text(text)), book_of(statement))

    def test_params_and_several_pieces(self):
        book = (("x",), (("a", (), ()), ("b", (("s", "context"), ("t", "token")), (("fail",),)),
                         ("c", (("u", "token"),), ())))
        text = "vars x ; piece a { } ; piece b s context t token { fail } ; piece c u token { }"
        self.assertEqual(book_text(book), text)
        self.assertEqual(read_book(text), book)

    def test_numbers(self):
        for number in (0, 1, 9, 10, 99):
            book = book_of(("set", "x", number), ("if", "x", number, (), ()))
            self.assertEqual(book_text(book), piece_text(f"set x {number} ; if x {number} {{ }} {{ }}"))
            self.assertEqual(read_book(book_text(book)), book)
            told = read_book(book_text(book))[1][0][2][0][2]
            self.assertIs(type(told), int)

    def test_names_that_are_words_of_the_language(self):
        for word in WORDS:
            book = ((word, "x"), (
                (word, ((word, "context"), ("token", "token")) if word != "token" else ((word, "context"),), (
                    ("set", word, word), ("copy", word), ("within", word, (("show", word),)),
                    ("with", word, word, (("drop", word), ("if", word, 1, (), ()))))),
                ("other", ((word, "token"),), (("hold", word, word, word), ("reset", word), ("hold", word, word, 0)))))
            need_book(book)
            self.assertEqual(read_book(book_text(book)), book)
        text = "vars vars ; piece piece context context token token { set vars vars ; copy context ; reset token }"
        book = (("vars",), (("piece", (("context", "context"), ("token", "token")), (
            ("set", "vars", "vars"), ("copy", "context"), ("reset", "token"))),))
        self.assertEqual(book_text(book), text)
        self.assertEqual(read_book(text), book)

    def test_bad_book_of_anything(self):
        for thing in odd_values() + odd_tuples():
            with self.assertRaises(BadBook):
                book_text(thing)
        with self.assertRaises(BadBook) as caught:
            book_text(book_of(("fail",), ("set", "x", True)))
        self.assertEqual(caught.exception.place, (0, (1,)))

    def test_what_is_read_is_made_of_plain_tuples(self):
        left = [read_book(EXAMPLE)]
        while left:
            thing = left.pop()
            self.assertIn(type(thing), (tuple, str, int))
            if isinstance(thing, tuple):
                left.extend(thing)


class TestBlanks(unittest.TestCase):

    def test_none_around_signs(self):
        tight = "vars x;piece a c context{set x 5;within c{show x};yield}"
        self.assertEqual(read_book(tight), EXAMPLE_BOOK)
        self.assertEqual(read_book("vars x y z;piece p{}"), book_of())
        self.assertEqual(read_book("vars x y z;piece p{guard{}{}}"), book_of(("guard", (), ())))

    def test_any_number_of_spaces_and_newlines(self):
        for blank in ("  ", "\n", " \n\n  ", " " * 1000):
            self.assertEqual(read_book(blank + EXAMPLE.replace(" ", blank) + blank), EXAMPLE_BOOK)
            self.assertEqual(read_book(EXAMPLE + blank), EXAMPLE_BOOK)
            self.assertEqual(read_book(blank + EXAMPLE), EXAMPLE_BOOK)

    def test_no_other_character_is_a_blank(self):
        for sign in "\t\r\x0b\x0c\x1c\x85\xa0\u2003":
            self.assertEqual(place_of_text(EXAMPLE.replace(" ", sign, 1)), 1)
            self.assertEqual(place_of_text(sign + EXAMPLE), 0)
            self.assertEqual(place_of_text(EXAMPLE + sign), len(EXAMPLE.split()))

    def test_a_run_goes_on_as_long_as_it_goes(self):
        self.assertEqual(place_of_text("varsx"), 0)
        self.assertEqual(place_of_text("vars x;piecea{}"), 3)
        self.assertEqual(place_of_text("vars x;piece a{setx 5}"), 6)
        self.assertEqual(place_of_text("vars x;piece a{set x5}"), 7)
        self.assertEqual(place_of_text("vars x;piece a{set x 5y}"), 8)
        self.assertEqual(place_of_text("vars x;piece a{set x 5 y}"), 9)


class TestWords(unittest.TestCase):

    def test_what_is_no_string(self):
        for thing in odd_values() + odd_tuples():
            if not isinstance(thing, str):
                self.assertEqual(place_of_text(thing), -1)
        self.assertEqual(place_of_text(EXAMPLE.encode()), -1)
        self.assertEqual(place_of_text([EXAMPLE]), -1)
        self.assertEqual(place_of_text(Hostile()), -1)

    def test_texts_without_words(self):
        for text in ("", " ", "\n", " \n "):
            self.assertEqual(place_of_text(text), 0)

    def test_vars_alone_is_a_text_but_no_book(self):
        for text in ("vars", " vars\n"):
            with self.assertRaises(BadBook) as caught:
                read_book(text)
            self.assertEqual(caught.exception.place, ("vars",))

    def test_names_of_eight_and_nine_letters(self):
        eight, nine = "abcdefgh", "abcdefghi"
        text = "vars x NAME ; piece NAME NAME context { set NAME NAME ; copy NAME }"
        self.assertIsNone(place_of_text(text.replace("NAME", eight)))
        for number, word in enumerate(text.split()):
            if word == "NAME":
                words = text.replace("NAME", eight).split()
                words[number] = nine
                self.assertEqual(place_of_text(" ".join(words)), number)

    def test_numbers_of_two_and_three_digits_and_zeros_ahead(self):
        for form, at in (("set x N", 10), ("hold t x N", 11), ("with x N { }", 10), ("if x N { } { }", 10)):
            for number in ("0", "7", "10", "99"):
                self.assertIsNone(place_of_text(piece_text(form.replace("N", number))))
            for number in ("00", "01", "010", "100", "000", "9" * 50, "0" * 5000, "1a", "a1"):
                self.assertEqual(place_of_text(piece_text(form.replace("N", number))), at, (form, number))
        self.assertEqual(place_of_text(piece_text("set x -1")), 10)
        self.assertEqual(place_of_text(piece_text("if x y { } { }")), 10)

    def test_characters_that_belong_to_no_word(self):
        for sign in "A-_.,:()[]\"'\\+*!":
            for at, text in ((0, "? vars x"), (1, "vars ? x"), (2, "vars x ?"), (2, "vars x? y"), (1, "vars ?x"),
                             (6, "vars x;piece a{?}"), (7, "vars x;piece a{}?"), (8, "vars x;piece a{set x?1}"),
                             (9, "vars x;piece a{set x 1?}")):
                self.assertEqual(place_of_text(text.replace("?", sign)), at, (sign, text))

    def test_the_end_comes_too_early_at_every_word(self):
        for text in [EXAMPLE] + [piece_text(text) for text in FORM_TEXTS]:
            words = text.split()
            for many in range(len(words)):
                begun = " ".join(words[:many])
                if begun in ("vars", "vars x", "vars x y", "vars x y z"):
                    self.assertIsNone(place_of_text(begun))
                else:
                    self.assertEqual(place_of_text(begun), many, begun)

    def test_signs_that_are_too_many(self):
        for at, text in ((3, "vars x ;"), (3, "vars x ; ; piece a { }"), (2, "vars ; vars"), (0, "; vars x"),
                         (6, "vars x ; piece a { ; }"), (8, "vars x ; piece a { fail ; }"),
                         (8, "vars x ; piece a { fail ; ; fail }"), (7, "vars x ; piece a { } }"),
                         (7, "vars x ; piece a { } { }"), (2, "vars x { }"), (8, "vars x ; piece a { } ;"),
                         (6, "vars x ; piece a { { } }"), (7, "vars x ; piece a { fail fail }"),
                         (3, "vars x ; a { }"), (4, "vars x ; piece { }"), (7, "vars x ; piece a { } piece b { }")):
            self.assertEqual(place_of_text(text), at, text)

    def test_kinds_of_params(self):
        for at, text in ((6, "vars x ; piece a c piece { }"), (6, "vars x ; piece a c { }"),
                         (6, "vars x ; piece a c Context { }"), (6, "vars x ; piece a c contexts { }"),
                         (5, "vars x ; piece a 1 context { }"), (8, "vars x ; piece a c context context { }"),
                         (8, "vars x ; piece a c token d"), (7, "vars x ; piece a c token")):
            self.assertEqual(place_of_text(text), at, text)

    def test_words_of_programs_are_none_of_books(self):
        for word in ("make", "step", "close", "play", "forget", "sets"):
            self.assertEqual(place_of_text(piece_text(word)), 8)
            self.assertEqual(place_of_text(piece_text("fail ; " + word + " x")), 10)

    def test_wrong_words_at_every_place(self):
        texts = [EXAMPLE] + [piece_text(text) for text in FORM_TEXTS]
        wrong = ("{", "}", ";", "-", "X", "x", "context", "piece", "vars", "fail", "set", "5", "05", "100",
                 "abcdefghi", "a1")
        for text in texts:
            words = text.split()
            for number in range(len(words) + 1):
                for word in wrong:
                    for rest in (words[number:], words[number + 1:]):
                        told = " ".join(words[:number] + [word] + rest)
                        self.assertEqual(place_of_text(told), expected_place(told), told)

    def test_changed_texts(self):
        chance = random.Random(20)
        texts = [EXAMPLE] + [piece_text(" ; ".join(FORM_TEXTS))] + [piece_text(text) for text in FORM_TEXTS]
        more = list(WORDS) + ["x", "p", "c", "{", "}", ";", "{", "}", ";", "0", "99", "100", "00", "-", "x1"]
        for _ in range(3000):
            words = chance.choice(texts).split()
            for _ in range(chance.randint(1, 3)):
                at = chance.randrange(len(words) + 1)
                words[at:at + chance.randint(0, 2)] = chance.choices(more, k=chance.randint(0, 2))
            told = chance.choice((" ", "\n", "  \n ")).join(words)
            told = re.sub(r" ([;{}]) ", r"\1", told) if chance.random() < 0.5 else told
            self.assertEqual(place_of_text(told), expected_place(told), told)


class TestLimits(unittest.TestCase):

    def nested(self, braces, inner="fail"):
        """A text with that many open braces, one of them the piece's own."""
        return "vars x;piece p{" + "guard{" * (braces - 1) + inner + "}{}" * (braces - 1) + "}"

    def test_forty_open_braces(self):
        text = self.nested(40)
        with self.assertRaises(BadBook) as caught:
            read_book(text)
        self.assertEqual(caught.exception.place, (0, (0,) + (0, 0) * 5))

    def test_forty_one_open_braces(self):
        text = self.nested(41)
        # "vars x ; piece p {", 39 times "guard {", and "guard": the next word is the brace.
        self.assertEqual(place_of_text(text), 6 + 2 * 39 + 1)
        self.assertEqual(expected_place(text), place_of_text(text))
        self.assertEqual(place_of_text(self.nested(5000)), 6 + 2 * 39 + 1)
        self.assertEqual(place_of_text(self.nested(40, "guard { } { }")), 6 + 2 * 39 + 1)

    def test_closed_braces_do_not_count(self):
        for inner in ("fail", "fail ; show x", ";".join(["fail"] * 50)):
            self.assertIsNone(place_of_text(self.nested(40, inner)))
        self.assertIsNone(place_of_text(self.nested(39, ";".join(["guard{}{}"] * 50))))
        self.assertIsNone(place_of_text("vars x" + ";piece a{}" * 100))

    def test_four_around_and_five(self):
        self.assertEqual(read_book(book_text(book_of(around(("fail",), 4)))), book_of(around(("fail",), 4)))
        with self.assertRaises(BadBook) as caught:
            read_book(self.nested(6))
        self.assertEqual(caught.exception.place, (0, (0,) + (0, 0) * 5))

    def test_three_hundred_thousand_characters(self):
        most = 300000
        self.assertEqual(read_book(EXAMPLE + " " * (most - len(EXAMPLE))), EXAMPLE_BOOK)
        self.assertEqual(place_of_text(EXAMPLE + " " * (most + 1 - len(EXAMPLE))), -1)
        self.assertEqual(place_of_text(" " * most), 0)
        self.assertEqual(place_of_text(" " * (most + 1)), -1)
        self.assertEqual(place_of_text("-" * most), 0)
        self.assertEqual(place_of_text("vars" + " x" * 149998), None)
        self.assertEqual(place_of_text("vars x;" + "piece a{};" * 29999), 3 + 5 * 29999)
        self.assertEqual(place_of_text("vars x;piece a{" + "fail;" * 50000), 6 + 2 * 50000)
        self.assertEqual(place_of_text("vars x;piece a{" + "{" * 200000), 6)

    def test_long_runs(self):
        for sign in ("a", "1", "0"):
            for many in (4000, 5000, 290000):
                self.assertEqual(place_of_text(sign * many), 0)
                self.assertEqual(place_of_text("vars " + sign * many), 1)
                self.assertEqual(place_of_text("vars x;piece a{set x " + sign * many + "}"), 8)


class TestThenBadBook(unittest.TestCase):

    def test_any_counts_are_texts(self):
        six = ";piece a{};piece b{};piece c{};piece d{};piece e{};piece f{}"
        for text, place in (("vars", ("vars",)), ("vars a b c d", ("vars",)), ("vars x x", ("vars",)),
                            ("vars x" + six + ";piece g{}", ()), ("vars;piece a{}", ("vars",)),
                            ("vars x;piece a{};piece a{}", (1,)),
                            ("vars x;piece p a token b token c token{}", (0,)),
                            ("vars x;piece p a token a token{}", (0,)),
                            ("vars x;piece p{" + ";".join(["fail"] * 17) + "}", (0, (16,))),
                            ("vars x;piece p{show y}", (0, (0,))), ("vars x;piece p{set x y}", (0, (0,))),
                            ("vars x;piece p{fail;leave}", (0, (1,))), ("vars x;piece p{loop{fail}}", (0, (0,))),
                            ("vars x;piece p{within c{yield}}", (0, (0, 0, 0))),
                            ("vars x;piece p{loop{yield;within c{leave}}}", (0, (0, 0, 1, 0, 0))),
                            ("vars x;piece p c token{copy c}", (0, (0,))),
                            ("vars x;piece p{copy c;guard{}{reset c}}", (0, (1, 1, 0)))):
            with self.assertRaises(BadBook) as caught:
                read_book(text)
            self.assertEqual(caught.exception.place, place, text)
        self.assertEqual(len(read_book("vars x" + six)[1]), 6)

    def test_bad_text_comes_ahead_of_it(self):
        self.assertEqual(place_of_text("vars x x ; piece p { show y } ;"), 11)
        self.assertEqual(place_of_text("vars ; piece p { set x 100 }"), 7)


if __name__ == "__main__":
    unittest.main()

"""The texts of programs, [12] and [13]: what is written, what is read, and which word of another text is wrong."""

import random
import re
import unittest

import grammar
from samples import Hostile, odd_tuples, odd_values
from stepwhere.booktexts import read_book
from stepwhere.errors import BadBook, BadProgram, BadText
from stepwhere.programs import need_program
from stepwhere.programtexts import program_text, read_program

BOOK = read_book("vars x y; piece none {}; piece c c context {}; piece ct c context t token {}")
STEPS = (
    ("set", "x", 5),
    ("hold", "t", "y", 9999),
    ("reset", "t"),
    ("drop", "y"),
    ("show", "x"),
    ("copy", "c"),
    ("within", "c", (("show", "x"),)),
    ("guard", (("show", "y"), ("drop", "x"))),
    ("make", "p", "none", ()),
    ("make", "p", "c", ("c",)),
    ("make", "p", "ct", ("c", "t")),
    ("step", "p"),
    ("close", "p"),
)
STEP_TEXTS = (
    "set x 5",
    "hold t y 9999",
    "reset t",
    "drop y",
    "show x",
    "copy c",
    "within c { show x }",
    "guard { show y ; drop x }",
    "make p none",
    "make p c c",
    "make p ct c t",
    "step p",
    "close p",
)
WORDS = ("set", "hold", "reset", "drop", "show", "copy", "within", "guard", "make", "step", "close", "if", "with",
         "loop", "leave", "yield", "fail", "vars", "piece", "context", "token", "play", "book")


def place_of_text(text, book=BOOK):
    """The place of BadText, or None of what is a text of a program or what would be one but for [10]."""
    try:
        read_program(book, text)
    except BadText as error:
        return error.place
    except BadProgram:
        return None
    return None


def place_of_program(text, book=BOOK):
    """The place of BadProgram."""
    try:
        read_program(book, text)
    except BadProgram as error:
        return error.place
    return None


def expected_place(text):
    return grammar.expected_place(text, "program")


class TestWritten(unittest.TestCase):

    def assert_both(self, program, text, book=BOOK):
        self.assertEqual(program_text(book, program), text)
        self.assertEqual(read_program(book, text), program)

    def test_each_step(self):
        for step, text in zip(STEPS, STEP_TEXTS):
            self.assert_both((step,), text)

    def test_all_steps_behind_one_another(self):
        self.assert_both(STEPS, " ; ".join(STEP_TEXTS))
        for one, text in zip(STEPS, STEP_TEXTS):
            for other, behind in zip(STEPS, STEP_TEXTS):
                self.assert_both((one, other), text + " ; " + behind)
                self.assert_both((("guard", (one, other)),), "guard { " + text + " ; " + behind + " }")

    def test_the_empty_program_is_the_empty_text(self):
        self.assert_both((), "")
        for text in (" ", "\n", " \n \n"):
            self.assertEqual(read_program(BOOK, text), ())

    def test_empty_programs_within(self):
        self.assert_both((("guard", ()),), "guard { }")
        self.assert_both((("within", "c", ()), ("guard", (("guard", ()),))), "within c { } ; guard { guard { } }")

    def test_numbers(self):
        for number in (0, 7, 10, 99, 100, 999, 1000, 9999):
            self.assert_both((("set", "x", number), ("hold", "t", "x", number)), f"set x {number} ; hold t x {number}")
            self.assertIs(type(read_program(BOOK, f"set x {number}")[0][2]), int)

    def test_names_that_are_words_of_the_language(self):
        for word in WORDS:
            book = ((word, "x"), ((word, (("c", "context"),), ()),))
            for slot in WORDS:
                program = (("set", word, 1), ("copy", slot), ("within", slot, (("show", word), ("drop", word))),
                           ("make", "p" + word[:7], word, (slot,)), ("step", "p" + word[:7]))
                if "p" + word[:7] != slot:
                    self.assert_both(program, f"set {word} 1 ; copy {slot} ; within {slot} {{ show {word} ; drop {word}"
                                     f" }} ; make p{word[:7]} {word} {slot} ; step p{word[:7]}", book)
        book = read_book("vars set; piece make a context b context {}")
        self.assert_both((("make", "step", "make", ("guard", "guard")), ("step", "step"), ("set", "set", 5)),
                         "make step make guard guard ; step step ; set set 5", book)

    def test_twelve_around(self):
        program, text = (("show", "x"),), "show x"
        for _ in range(12):
            program, text = (("within", "c", program),), "within c { " + text + " }"
        self.assert_both(program, text)

    def test_what_is_read_is_made_of_plain_tuples(self):
        left = [read_program(BOOK, " ; ".join(STEP_TEXTS))]
        while left:
            thing = left.pop()
            self.assertIn(type(thing), (tuple, str, int))
            if isinstance(thing, tuple):
                left.extend(thing)

    def test_a_text_that_is_too_long_to_be_read_is_written(self):
        program = (("show", "x"),) * 50000
        text = program_text(BOOK, program)
        self.assertEqual(len(text), 50000 * 9 - 3)
        self.assertEqual(place_of_text(text), -1)


class TestErrors(unittest.TestCase):

    def test_written_bad_book_then_bad_program_of_anything(self):
        for thing in odd_values() + odd_tuples():
            with self.assertRaises(BadBook):
                program_text(thing, None)
            with self.assertRaises(BadBook):
                read_program(thing, None)
        for thing in odd_values() + [list(STEPS), "show x"]:
            with self.assertRaises(BadProgram) as caught:
                program_text(BOOK, thing)
            self.assertEqual(caught.exception.place, ())
        with self.assertRaises(BadProgram) as caught:
            program_text(BOOK, (("guard", (("show", "x"), ("set", "x", True))),))
        self.assertEqual(caught.exception.place, (0, 0, 1))

    def test_bad_book_then_bad_text_then_bad_program(self):
        bad = (("x",), (("p", (), (("nothing",),)),))
        for text in ("", "show", "show z", None, Hostile()):
            with self.assertRaises(BadBook) as caught:
                read_program(bad, text)
            self.assertEqual(caught.exception.place, (0, (0,)))
        self.assertEqual(place_of_text("show z ; show"), 4)
        self.assertEqual(place_of_program("show z ; show x"), (0,))

    def test_any_names_and_counts_are_texts(self):
        for text, place in (("show z", (0,)), ("show x ; set z 1", (1,)), ("make p other", (0,)),
                            ("make p none c", (0,)), ("make p c", (0,)), ("make p c c c c c c", (0,)),
                            ("make p ct t t", (0,)), ("make p c p", (0,)), ("copy p ; step p", (1,)),
                            ("guard { show x ; within c { show z } }", (0, 0, 1, 0, 0)),
                            ("within t { reset t }", (0, 0, 0)), ("make p ct c c", (0,))):
            self.assertEqual(place_of_program(text), place, text)

    def test_thirteen_around(self):
        text = "show x"
        for _ in range(13):
            text = "guard { " + text + " }"
        self.assertEqual(place_of_program(text), (0,) + (0, 0) * 13)


class TestBlanks(unittest.TestCase):

    def test_none_around_signs_and_any_number_elsewhere(self):
        text = "within c { show x ; guard { } } ; make p ct c t"
        program = read_program(BOOK, text)
        self.assertEqual(read_program(BOOK, "within c{show x;guard{}};make p ct c t"), program)
        for blank in ("  ", "\n", " \n\n  ", " " * 1000):
            self.assertEqual(read_program(BOOK, blank + text.replace(" ", blank) + blank), program)

    def test_no_other_character_is_a_blank(self):
        for sign in "\t\r\x0b\x0c\x1c\x85\xa0\u2003":
            self.assertEqual(place_of_text("show x" + sign), 2)
            self.assertEqual(place_of_text("show" + sign + "x"), 1)
            self.assertEqual(place_of_text(sign), 0)

    def test_a_run_goes_on_as_long_as_it_goes(self):
        for at, text in ((0, "showx"), (2, "set x5"), (2, "set x 5y"), (1, "set x5 5"), (3, "set x 5 y"),
                         (4, "show x;step")):
            self.assertEqual(place_of_text(text), at if text != "set x5" else 1, text)


class TestWords(unittest.TestCase):

    def test_what_is_no_string(self):
        for thing in odd_values() + odd_tuples():
            if not isinstance(thing, str):
                self.assertEqual(place_of_text(thing), -1)
        self.assertEqual(place_of_text(b"show x"), -1)
        self.assertEqual(place_of_text(["show x"]), -1)

    def test_names_of_eight_and_nine_letters(self):
        eight, nine = "abcdefgh", "abcdefghi"
        text = "set N 1 ; hold N N 1 ; reset N ; drop N ; show N ; copy N ; within N { } ; make N N N N ; step N ; close N"
        self.assertIsNone(place_of_text(text.replace("N", eight)))
        for number, word in enumerate(text.split()):
            if word == "N":
                words = text.replace("N", eight).split()
                words[number] = nine
                self.assertEqual(place_of_text(" ".join(words)), number)

    def test_numbers_of_four_and_five_digits_and_zeros_ahead(self):
        for form, at in (("set x N", 2), ("hold t x N", 3), ("guard { set x N }", 4)):
            for number in ("0", "7", "10", "99", "100", "1000", "9999"):
                self.assertIsNone(place_of_text(form.replace("N", number)))
            for number in ("00", "01", "010", "0100", "00000", "10000", "99999", "9" * 5000, "1a", "a1", "x", "-1"):
                self.assertEqual(place_of_text(form.replace("N", number)), at, (form, number))

    def test_the_words_of_pieces_are_no_steps(self):
        for word in ("if", "with", "loop", "leave", "yield", "fail", "piece", "vars", "play", "sets", "x", "5"):
            for text, at in ((word, 0), ("show x ; " + word, 3), ("guard { " + word + " }", 2)):
                self.assertEqual(place_of_text(text), at)
        self.assertEqual(place_of_text("set x y"), 2)
        self.assertEqual(place_of_text("guard { } { }"), 3)

    def test_the_end_comes_too_early_at_every_word(self):
        for text in STEP_TEXTS + ("show x ; " + STEP_TEXTS[7],):
            words = text.split()
            for many in range(1, len(words)):
                begun = " ".join(words[:many])
                place = place_of_text(begun)
                if begun in ("make p c", "make p ct", "make p ct c", "show x"):
                    self.assertIsNone(place)
                else:
                    self.assertEqual(place, many, begun)

    def test_signs_that_are_too_many(self):
        for at, text in ((0, ";"), (0, "}"), (0, "{"), (0, "{ }"), (2, "show x }"), (3, "show x ;"), (3, "show x ; ;"),
                         (3, "guard { } }"), (3, "guard { } show x"), (2, "show x show x"), (2, "guard { ; }"),
                         (5, "guard { show x ; }"), (4, "make p c c {"), (4, "make p c c }"), (4, "make p c c 5"),
                         (2, "within c ; show x")):
            self.assertEqual(place_of_text(text), at, text)

    def test_wrong_words_at_every_place(self):
        wrong = ("{", "}", ";", "-", "X", "x", "none", "show", "if", "yield", "5", "05", "10000", "abcdefghi", "a1")
        for text in STEP_TEXTS + (" ; ".join(STEP_TEXTS),):
            words = text.split()
            for number in range(len(words) + 1):
                for word in wrong:
                    for rest in (words[number:], words[number + 1:]):
                        told = " ".join(words[:number] + [word] + rest)
                        self.assertEqual(place_of_text(told), expected_place(told), told)

    def test_changed_texts(self):
        chance = random.Random(21)
        texts = [" ; ".join(STEP_TEXTS)] + list(STEP_TEXTS)
        more = list(WORDS) + ["x", "p", "c", "{", "}", ";", "{", "}", ";", "0", "9999", "10000", "00", "-", "x1"]
        for _ in range(3000):
            words = chance.choice(texts).split()
            for _ in range(chance.randint(1, 3)):
                at = chance.randrange(len(words) + 1)
                words[at:at + chance.randint(0, 2)] = chance.choices(more, k=chance.randint(0, 2))
            told = chance.choice((" ", "\n", "  \n ")).join(words)
            told = re.sub(r" ([;{}]) ", r"\1", told) if chance.random() < 0.5 else told
            self.assertEqual(place_of_text(told), expected_place(told), told)


class TestLimits(unittest.TestCase):

    def nested(self, braces, inner="show x"):
        return "guard{" * braces + inner + "}" * braces

    def test_forty_open_braces_and_forty_one(self):
        self.assertEqual(place_of_program(self.nested(40)), (0,) + (0, 0) * 13)
        self.assertEqual(place_of_text(self.nested(41)), 2 * 40 + 1)
        self.assertEqual(place_of_text(self.nested(5000)), 2 * 40 + 1)
        self.assertEqual(expected_place(self.nested(41)), 2 * 40 + 1)
        self.assertIsNone(place_of_text(self.nested(39, ";".join(["guard{}"] * 50))))

    def test_three_hundred_thousand_characters(self):
        most = 300000
        text = "show x;" * 42857
        text = text[:-1] + " " * (most - len(text) + 1)
        self.assertEqual(len(text), most)
        program = read_program(BOOK, text)
        self.assertEqual(program, (("show", "x"),) * 42857)
        self.assertEqual(place_of_text(text + " "), -1)
        self.assertIsNone(place_of_text(" " * most))
        self.assertEqual(place_of_text(" " * (most + 1)), -1)
        self.assertEqual(place_of_text(";" * most), 0)
        self.assertEqual(place_of_text("show x;" * 42857), 3 * 42857)
        self.assertIsNone(place_of_text("make p none" + " c" * 144000))

    def test_long_runs(self):
        for sign in ("a", "1", "0"):
            for many in (5000, 290000):
                self.assertEqual(place_of_text(sign * many), 0)
                self.assertEqual(place_of_text("show " + sign * many), 1)
                self.assertEqual(place_of_text("set x " + sign * many), 2)

    def test_a_program_that_is_read_is_one(self):
        for text in STEP_TEXTS:
            program = read_program(BOOK, text)
            self.assertIs(need_program(BOOK, program), program)


if __name__ == "__main__":
    unittest.main()

"""Desks, [30]: each line, each answer, each refusal, and two at once."""

import random
import re
import unittest

import grammar
from samples import Hostile, odd_tuples, odd_values
from stepwhere.alike import parting
from stepwhere.booktexts import book_text, read_book
from stepwhere.desk import Desk
from stepwhere.errors import BadBook, BadText, TooGreat
from stepwhere.play import play, play_with
from stepwhere.programtexts import read_program
from stepwhere.reach import ends, reached
from stepwhere.shelf import Shelf

TEXT = ("vars x y ; piece a { with x 1 { yield } } ; piece b { hold t x 1 ; yield ; reset t } ; piece c { set y 2 } ; "
        "piece d { set y 1 ; set y 2 } ; piece e t token { reset t }")
COMMANDS = ("piece", "forget", "book", "alike", "parting", "ends", "unreached", "quiet", "lean", "classes", "play")
NINE = " ; ".join(["fail"] * 9)


class DeskCase(unittest.TestCase):

    text = TEXT

    def setUp(self):
        self.desk = Desk(self.text)

    def assert_says(self, line, answer):
        self.assertEqual(self.desk.say(line), answer, line)

    def assert_refuses(self, line, answer):
        """The answer, and that nothing is changed."""
        book, walked = self.desk.shelf.book(), self.desk.shelf.walked()
        self.assert_says(line, answer)
        self.assertEqual((self.desk.shelf.book(), self.desk.shelf.walked()), (book, walked), line)


class TestDesk(DeskCase):

    def test_its_shelf(self):
        self.assertIsInstance(self.desk.shelf, Shelf)
        self.assertEqual(self.desk.shelf.book(), read_book(TEXT))
        self.assertIs(self.desk.shelf, self.desk.shelf)

    def test_errors_of_the_text(self):
        for thing in odd_values() + odd_tuples():
            if not isinstance(thing, str):
                with self.assertRaises(BadText) as caught:
                    Desk(thing)
                self.assertEqual(caught.exception.place, -1)
        for text, kind, place in (("", BadText, 0), ("vars x ; piece", BadText, 4), ("book", BadText, 0),
                                  ("vars x ; piece a { show y }", BadBook, (0, (0,))), ("vars", BadBook, ("vars",)),
                                  ("vars x y z", TooGreat, ("vars",)), ("vars x ; piece a { } ; piece b { " + NINE + " }", TooGreat, (1,)),
                                  ("vars x y z ; piece a { show w }", BadBook, (0, (0,)))):
            with self.assertRaises(kind) as caught:
                Desk(text)
            self.assertEqual(caught.exception.place, place)


class TestLines(DeskCase):

    def test_piece(self):
        self.assert_says("piece b { show x }", "done")
        self.assertEqual(self.desk.shelf["b"], ("b", (), (("show", "x"),)))
        self.assertEqual(self.desk.shelf.names(), ("a", "b", "c", "d", "e"))
        self.assert_says("piece f c context t token { within c { reset t } }", "done")
        self.assertEqual(self.desk.shelf["f"], ("f", (("c", "context"), ("t", "token")), (("within", "c", (("reset", "t"),)),)))
        self.assertEqual(self.desk.shelf.names(), ("a", "b", "c", "d", "e", "f"))
        self.assert_says("piece a { with x 1 { yield } }", "done")

    def test_forget(self):
        self.assert_says("forget b", "done")
        self.assertEqual(self.desk.shelf.names(), ("a", "c", "d", "e"))
        self.assert_says("forget b", "no piece b")

    def test_book(self):
        self.assert_says("book", TEXT)
        for name in "abcde":
            self.assert_says("forget " + name, "done")
        self.assert_says("book", "vars x y")
        self.assert_says("piece z{}", "done")
        self.assert_says("book", "vars x y ; piece z { }")

    def test_alike(self):
        for line, answer in (("alike a b", "no"), ("alike c d", "yes"), ("alike d c", "yes"), ("alike a a", "yes"),
                             ("alike e e", "yes"), ("alike a c", "no")):
            self.assert_says(line, answer)

    def test_parting(self):
        book = read_book(TEXT)
        for one, other in (("a", "b"), ("b", "a"), ("a", "c"), ("d", "a")):
            told = self.desk.say(f"parting {one} {other}")
            program = read_program(book, told)
            self.assertNotEqual(play(book, program), play_with(book, program, one, other))
            self.assertEqual(len(program), len(parting(book, one, other)))
            self.assert_says(f"parting {one} {other}", told)
        self.assert_says("parting c d", "none")
        self.assert_says("parting a a", "none")

    def test_ends(self):
        self.assert_says("ends a", "closed elsewhere ended yielded")
        self.assert_says("ends c", "closed ended")
        self.assert_says("ends e", "closed elsewhere empty ended used")
        for name in "abcde":
            self.assert_says("ends " + name, " ".join(ends(read_book(TEXT), name)))

    def test_unreached(self):
        self.assert_says("unreached a", "none")
        self.desk.say("piece f { if x 1 { if x 2 { fail ; show x } { } } { } ; fail ; guard { drop x } { show y } }")
        self.assert_says("unreached f", "0.0.0.0.0 0.0.0.0.1 2 2.0.0 2.1.0")
        book = self.desk.shelf.book()
        self.assertEqual(list(reached(book, "f")), [(0,), (0, 0, 0), (1,)])
        self.desk.say("piece f { }")
        self.assert_says("unreached f", "none")
        self.desk.say("piece f { fail ; show x }")
        self.assert_says("unreached f", "1")

    def test_quiet(self):
        self.assert_says("quiet a", "no")
        self.assert_says("quiet e", "no")
        self.assert_says("piece f { with x 1 { show x } }", "done")
        self.assert_says("quiet f", "yes")

    def test_lean(self):
        self.assert_says("lean d", "piece d { set y 2 }")
        self.assert_says("lean e", "piece e t token { reset t }")
        self.assert_says("piece f { guard { } { fail } }", "done")
        self.assert_says("lean f", "piece f { }")
        self.assert_says(self.desk.say("lean d"), "done")
        self.assertEqual(self.desk.shelf["d"], ("d", (), (("set", "y", 2),)))

    def test_classes(self):
        self.assert_says("classes", "a ; b ; c d ; e")
        self.assert_says("piece f { hold t y 2 }", "done")
        self.assert_says("classes", "a ; b ; c d f ; e")
        for name in "abcdef":
            self.desk.say("forget " + name)
        self.assert_says("classes", "none")

    def test_play(self):
        self.assert_says("play make m a ; step m ; show x ; step m ; show x", "yielded ; shown x 1 ; ended ; failed unset")
        self.assert_says("play make m a ; close m", "closed")
        self.assert_says("play set y 9999 ; show y", "shown y 9999")
        self.assert_says("play guard { show x } ; guard { step p } ; make p e t ; step p",
                         "failed unset ; failed empty ; failed empty")
        for line in ("play", "play set x 1", "play guard { }", "play make m a"):
            self.assert_says(line, "none")
        self.assertEqual(self.desk.shelf.book(), read_book(TEXT))

    def test_names_that_are_words_of_the_language(self):
        for word in [one for one in COMMANDS if len(one) < 9] + ["none", "yes", "vars", "context", "set", "yield", "step", "make"]:
            desk = Desk(f"vars {word} ; piece {word} {{ set {word} 1 }} ; piece x {{ }}")
            for line, answer in ((f"alike {word} x", "no"), (f"ends {word}", "closed ended"), (f"quiet {word}", "no"),
                                 (f"unreached {word}", "none"), (f"lean {word}", f"piece {word} {{ set {word} 1 }}"),
                                 ("classes", f"{word} ; x"), (f"parting {word} {word}", "none"),
                                 (f"play make {word} {word} ; step {word} ; show {word}", f"ended ; shown {word} 1"),
                                 (f"piece {word} {word} context {{ within {word} {{ drop {word} }} }}", "done"),
                                 (f"forget {word}", "done"), (f"forget {word}", f"no piece {word}"),
                                 ("book", f"vars {word} ; piece x {{ }}")):
                self.assertEqual(desk.say(line), answer, line)

    def test_spaces_and_newlines_at_every_place(self):
        for line in ("piece f c context { set x 5 ; within c { show x } ; yield }", "forget f", "book", "alike c d", "parting c d",
                     "ends a", "unreached a", "quiet a", "lean d", "classes", "play make m a ; guard { step m ; show x }", "play"):
            answers = set()
            for blank in ("", " ", "\n", " \n\n  ", "  "):
                for inner in (" ", "\n", "   \n"):
                    desk = Desk(TEXT + " ; piece f { }")
                    answers.add(desk.say(blank + line.replace(" ", inner) + blank))
            tight = re.sub(r" ?([;{}]) ?", r"\1", line)
            answers.add(Desk(TEXT + ";piece f{}").say(tight))
            self.assertEqual(len(answers), 1, answers)
            self.assertNotIn("bad", answers.pop())

    def test_the_shelf_may_be_changed_by_itself(self):
        self.desk.shelf["c"] = ("c", (), (("fail",),))
        self.assert_says("ends c", "closed own")
        self.desk.shelf.forget("c")
        self.assert_says("ends c", "no piece c")
        with self.desk.shelf.trial():
            self.assert_says("forget a", "done")
        self.assert_says("quiet a", "no")

    def test_lines_count_as_the_shelf_does(self):
        for line in ("alike a b", "parting b a", "ends a", "unreached a", "quiet a", "lean a", "alike a a", "book", "play"):
            self.desk.say(line)
        self.assertEqual(self.desk.shelf.walked(), 1)
        self.desk.say("classes")
        self.assertEqual(self.desk.shelf.walked(), 6)
        self.desk.say("piece a { with x 1 { yield } }")
        self.desk.say("classes")
        self.assertEqual(self.desk.shelf.walked(), 6)
        self.desk.say("forget a")
        self.desk.say("piece a { with x 1 { yield } }")
        self.desk.say("alike a b")
        self.assertEqual(self.desk.shelf.walked(), 7)


class TestRefusals(DeskCase):

    def test_bad_line_of_what_is_no_string_or_too_long(self):
        for thing in odd_values() + odd_tuples():
            if not isinstance(thing, str):
                self.assert_refuses(thing, "bad line")
        self.assert_refuses("classes" + " " * 299994, "bad line")
        self.assert_says("classes" + " " * 299993, "a ; b ; c d ; e")
        for line in ("x" * 300001, " " * 300001, b"classes", ["classes"], Hostile()):
            self.assert_refuses(line, "bad line")

    def test_lines_without_words(self):
        for line in ("", " ", "\n", " " * 300000):
            self.assert_refuses(line, "bad line 0")

    def test_words_that_lack(self):
        for line, many in (("piece", 1), ("piece f", 2), ("piece f c", 3), ("piece f c context", 4), ("piece f {", 3),
                           ("piece f { show x", 5), ("piece f { show x ;", 6), ("forget", 1), ("alike", 1), ("alike a", 2),
                           ("parting", 1), ("parting z", 2), ("ends", 1), ("unreached", 1), ("quiet", 1), ("lean", 1),
                           ("play set x", 3), ("play guard {", 3), ("play show x ;", 4)):
            self.assert_refuses(line, f"bad line {many}")

    def test_words_that_cannot_stand(self):
        for line, at in (("x", 0), ("5", 0), ("Book", 0), ("books", 0), (";", 0), ("{ }", 0), ("book book", 1), ("classes a", 1),
                         ("forget a b", 2), ("forget 5", 1), ("forget A", 1), ("alike a b c", 3), ("alike a , b", 2),
                         ("alike a ; b", 2), ("ends abcdefghi", 1), ("ends a1", 1), ("ends a ;", 2), ("play }", 1),
                         ("play show x }", 3), ("play if x 1 { } { }", 1), ("play set x 10000", 3), ("play set x 01", 3),
                         ("piece a { set x 100 }", 5), ("piece a { step p }", 3), ("piece a { } ;", 4), ("piece a { } }", 4),
                         ("piece a { } ; piece b { }", 4), ("piece a c piece { }", 3), ("piece 5 { }", 1), ("vars x", 0),
                         ("piece a { show x show x }", 5), ("book ; piece a { }", 1), ("set x 1", 0), ("yes", 0), ("book\t", 1),
                         ("\tbook", 0), ("play ; show x", 1), ("play { }", 1), ("lean a ?", 2), ("quiet ( a )", 1)):
            self.assert_refuses(line, f"bad line {at}")

    def test_open_braces(self):
        self.assert_refuses("piece f {" + "guard {" * 39 + "guard {", f"bad line {2 * 40 + 2}")
        self.assert_refuses("piece f {" + "guard {" * 39 + "} { }" * 39 + "}", "bad book 5 0.0.0.0.0.0.0.0.0.0.0")
        self.assert_refuses("play " + "guard {" * 41 + "}" * 41, f"bad line {2 * 41}")
        self.assert_refuses("play " + "guard {" * 40 + "}" * 40, "bad program " + ".".join(["0"] * 27))

    def test_no_piece(self):
        for line, name in (("forget z", "z"), ("alike z a", "z"), ("alike a z", "z"), ("alike y z", "y"), ("parting y z", "y"),
                           ("ends x", "x"), ("unreached abcdefgh", "abcdefgh"), ("quiet none", "none"), ("lean t", "t"),
                           ("alike z z", "z"), ("parting e z", "z")):
            self.assert_refuses(line, "no piece " + name)

    def test_other_params(self):
        for line in ("alike a e", "alike e a", "parting e b", "parting c e"):
            self.assert_refuses(line, "other params")
        self.desk.say("piece f t token c context { }")
        self.desk.say("piece a c context t token { }")
        self.assert_refuses("alike a f", "other params")

    def test_bad_book(self):
        for line, answer in (("piece f { show z }", "bad book 5 0"), ("piece a { show z }", "bad book 0 0"),
                             ("piece c { show x ; guard { } { fail ; leave } }", "bad book 2 1.1.1"),
                             ("piece f { loop { fail } }", "bad book 5 0"),
                             ("piece f c context { reset c }", "bad book 5 0"),
                             ("piece d c context c context { }", "bad book 3"),
                             ("piece d a token b token c token { }", "bad book 3"),
                             ("piece f { " + " ; ".join(["fail"] * 17) + " }", "bad book 5 16"),
                             ("piece b { copy c ; within c { yield } }", "bad book 1 1.0.0")):
            self.assert_refuses(line, answer)
        self.assert_says("piece f { }", "done")
        self.assert_refuses("piece g { }", "bad book")
        self.assert_refuses("piece g { show z }", "bad book")

    def test_too_great(self):
        self.assert_refuses("piece f { " + NINE + " }", "too great 5")
        self.assert_refuses("piece b { guard { " + " ; ".join(["fail"] * 8) + " } { } }", "too great 1")
        self.assert_says("piece b { " + " ; ".join(["fail"] * 8) + " }", "done")

    def test_bad_program(self):
        for line, answer in (("play show z", "bad program 0"), ("play show x ; make p z", "bad program 1"),
                             ("play copy c ; within c { show x ; guard { show y ; drop z } }", "bad program 1.0.1.0.1"),
                             ("play make p e", "bad program 0"), ("play make p a c", "bad program 0"),
                             ("play step p ; copy p", "bad program 1"), ("play make p e p", "bad program 0")):
            self.assert_refuses(line, answer)

    def test_two_at_once(self):
        self.assert_refuses("alike y z ;", "bad line 3")
        self.assert_refuses("piece f { show z ; " + NINE + " }", "bad book 5 0")
        self.assert_refuses("piece f { show z ; show 5 }", "bad line 7")
        self.assert_refuses("play show z ; show", "bad line 5")
        self.assert_refuses("parting z e", "no piece z")
        self.assert_refuses("parting e z", "no piece z")
        self.desk.say("piece f { }")
        self.assert_refuses("piece g { " + NINE + " }", "bad book")
        self.assert_refuses("piece g { set x 100 }", "bad line 5")

    def test_wrong_words_at_every_place(self):
        wrong = ("{", "}", ";", "-", "X", "x", "a", "piece", "play", "alike", "set", "5", "05", "100", "10000", "abcdefghi", "a1")
        lines = ("piece f c context t token { set x 5 ; within c { reset t } ; if x 1 { } { fail } ; loop { yield } }",
                 "forget a", "book", "alike a b", "parting a b", "ends a", "unreached a", "quiet a", "lean a", "classes",
                 "play make m a ; within c { set x 100 ; show x } ; make n e t ; close m")
        for line in lines:
            words = line.split()
            for number in range(len(words) + 1):
                for word in wrong:
                    for rest in (words[number:], words[number + 1:]):
                        told = " ".join(words[:number] + [word] + rest)
                        place = grammar.expected_place(told, "line")
                        answer = Desk("vars x ; piece a { } ; piece b { }").say(told)
                        if place is None:
                            self.assertNotIn("bad line", answer, told)
                        else:
                            self.assertEqual(answer, f"bad line {place}", told)

    def test_changed_lines(self):
        chance = random.Random(30)
        texts = ["piece f c context { set x 5 ; within c { show x } ; yield }", "play make m a ; guard { step m ; close m }",
                 "alike a b", "forget a", "classes", "parting a e"]
        more = list(COMMANDS) + ["x", "a", "e", "{", "}", ";", "{", "}", ";", "0", "99", "100", "00", "-", "x1", "show", "yield"]
        for _ in range(2000):
            words = chance.choice(texts).split()
            for _ in range(chance.randint(1, 3)):
                at = chance.randrange(len(words) + 1)
                words[at:at + chance.randint(0, 2)] = chance.choices(more, k=chance.randint(0, 2))
            told = chance.choice((" ", "\n", "  \n ")).join(words)
            place = grammar.expected_place(told, "line")
            answer = self.desk.say(told)
            self.assertEqual(answer.startswith("bad line"), place is not None, told)
            if place is not None:
                self.assertEqual(answer, f"bad line {place}", told)
        self.assertEqual(read_book(self.desk.say("book")), self.desk.shelf.book())


class TestLong(DeskCase):

    def test_a_long_line(self):
        line = "play " + ";".join(["show x"] * 42850)
        self.assert_says(line, "failed unset")
        guarded = "play " + ";".join(["guard{show x}"] * 20000)
        self.assert_says(guarded, " ; ".join(["failed unset"] * 20000))
        self.assert_refuses("piece f {" + ";".join(["fail"] * 50000) + "}", "bad book 5 16")

    def test_the_text_of_a_book_is_told_as_it_is_written(self):
        self.assertEqual(self.desk.say("book"), book_text(self.desk.shelf.book()))


if __name__ == "__main__":
    unittest.main()

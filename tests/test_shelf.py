"""Shelves, [29]: what they tell, what they keep of what was found, and what they count."""

import random
import unittest

from drawn import Drawer
from samples import Hostile, odd_tuples, odd_values
from stepwhere import alike, reach, shorter
from stepwhere.booktexts import read_book
from stepwhere.contexts import Context
from stepwhere.errors import BadBook, BadQuestion, Missing, StepwhereError, TooGreat
from stepwhere.play import play, play_with
from stepwhere.rooms import under
from stepwhere.shelf import Shelf

TEXT = ("vars x y; piece a { with x 1 { yield } }; piece b { hold t x 1; yield; reset t }; piece c { set y 2 };"
        "piece d { set y 1; set y 2 }; piece e t token { reset t }")
NINE = (("fail",),) * 9


def piece(name, rows, params="", variables="x y"):
    return read_book(f"vars {variables} ; piece {name} {params} {{ {rows} }}")[1][0]


def refused(ask, *parts):
    try:
        ask(*parts)
    except (BadBook, TooGreat) as error:
        return type(error), error.place
    except (BadQuestion, Missing) as error:
        return type(error), None
    return None


class ShelfCase(unittest.TestCase):

    def setUp(self):
        self.book = read_book(TEXT)
        self.shelf = Shelf(self.book)

    def put(self, name, thing):
        self.shelf[name] = thing


class TestBook(ShelfCase):

    def test_what_it_keeps(self):
        self.assertEqual(self.shelf.book(), self.book)
        self.assertEqual(self.shelf.names(), ("a", "b", "c", "d", "e"))
        self.assertIs(type(self.shelf.names()), tuple)
        self.assertEqual(len(self.shelf), 5)
        for thing in self.book[1]:
            self.assertEqual(self.shelf[thing[0]], thing)
            self.assertIs(thing[0] in self.shelf, True)

    def test_no_pieces(self):
        shelf = Shelf(read_book("vars x"))
        self.assertEqual((len(shelf), shelf.names(), shelf.classes(), shelf.book()), (0, (), [], (("x",), ())))
        self.assertIs("x" in shelf, False)

    def test_bad_book_then_too_great(self):
        for thing in odd_values() + odd_tuples():
            self.assertEqual(refused(Shelf, thing)[0], BadBook)
        self.assertEqual(refused(Shelf, (("x", "y", "z"), (("p", (), (("nothing",),)),))), (BadBook, (0, (0,))))
        self.assertEqual(refused(Shelf, (("x", "y", "z"), (("p", (), NINE),))), (TooGreat, ("vars",)))
        self.assertEqual(refused(Shelf, (("x", "y", "z"), ())), (TooGreat, ("vars",)))
        pieces = (("p", (), NINE[:8]), ("q", (), NINE), ("r", (), NINE))
        self.assertEqual(refused(Shelf, (("x",), pieces)), (TooGreat, (1,)))
        self.assertIsNone(refused(Shelf, (("x", "y"), pieces[:1])))

    def test_in_of_anything(self):
        for thing in odd_values() + odd_tuples() + ["f", "x", "A", 0, ("a",), self.book[1][0]]:
            self.assertIs(thing in self.shelf, False)

    def test_missing_of_anything(self):
        for thing in odd_values() + odd_tuples() + ["f", "x", "A", 0, ("a",), self.book[1][0]]:
            for ask in (lambda: self.shelf[thing], lambda: self.shelf.forget(thing), lambda: self.shelf.ends(thing),
                        lambda: self.shelf.quiet(thing), lambda: self.shelf.lean(thing),
                        lambda: self.shelf.alike(thing, "a"), lambda: self.shelf.alike("a", thing),
                        lambda: self.shelf.parting(thing, "e"), lambda: self.shelf.parting("e", thing),
                        lambda: self.shelf.alike(thing, thing), lambda: self.shelf.parting(thing, Hostile())):
                with self.assertRaises(Missing) as caught:
                    ask()
                self.assertIs(caught.exception.name, thing)
        self.assertEqual(self.shelf.book(), self.book)

    def test_missing_tells_the_first_one(self):
        for ask in (self.shelf.alike, self.shelf.parting):
            with self.assertRaises(Missing) as caught:
                ask("y", "z")
            self.assertEqual(caught.exception.name, "y")
        self.assertNotIsInstance(caught.exception, StepwhereError)


class TestPut(ShelfCase):

    def test_in_the_place_of_another(self):
        new = piece("b", "show x")
        self.assertIsNone(self.put("b", new))
        self.assertEqual(self.shelf["b"], new)
        self.assertEqual(self.shelf.names(), ("a", "b", "c", "d", "e"))
        self.assertEqual(self.shelf.book(), (("x", "y"), (self.book[1][0], new) + self.book[1][2:]))

    def test_behind_all(self):
        new = piece("aa", "show x")
        self.put("aa", new)
        self.assertEqual(self.shelf.names(), ("a", "b", "c", "d", "e", "aa"))
        self.assertEqual(len(self.shelf), 6)
        self.assertEqual(self.shelf["aa"], new)

    def test_bad_question(self):
        new = piece("b", "show x")
        for name in odd_values() + odd_tuples() + ["a", "c", "z", "B", "b "]:
            self.assertEqual(refused(self.put, name, new), (BadQuestion, None))
        for thing in odd_values() + [(), ("b",), ("b", ()), ("b", (), (), ()), ["b", (), ()], "bcd", (("b", (), ()),)]:
            self.assertEqual(refused(self.put, "b", thing), (BadQuestion, None))
        for first in odd_values() + odd_tuples():
            self.assertEqual(refused(self.put, "b", (first, (), ())), (BadQuestion, None))
        self.assertEqual(self.shelf.book(), self.book)

    def test_then_bad_book(self):
        for thing, place in ((("b", [], ()), (1,)), (("b", (), []), (1,)), (("b", None, None), (1,)),
                             (("b", (), (("show", "z"),)), (1, (0,))), (("b", (), (("fail",), ("leave",))), (1, (1,))),
                             (("b", (("t", "piece"),), ()), (1,)), (("b", Hostile(), Hostile()), (1,)),
                             (("b", (), (("set", "x", True),)), (1, (0,))), (("b", (), NINE + NINE), (1, (16,)))):
            self.assertEqual(refused(self.put, "b", thing), (BadBook, place), thing[1:])
        for name in ("Ab", "", "a1", "abcdefghi"):
            self.assertEqual(refused(self.put, name, (name, (), ())), (BadBook, (5,)))
        self.put("f", ("f", (), ()))
        self.assertEqual(refused(self.put, "g", ("g", (), ())), (BadBook, ()))
        self.assertEqual(refused(self.put, "g", ("g", (), NINE)), (BadBook, ()))
        self.assertEqual(self.shelf.book(), (self.book[0], self.book[1] + (("f", (), ()),)))

    def test_then_too_great(self):
        self.assertEqual(refused(self.put, "c", ("c", (), NINE)), (TooGreat, (2,)))
        self.assertEqual(refused(self.put, "f", ("f", (), NINE)), (TooGreat, (5,)))
        self.assertIsNone(refused(self.put, "f", ("f", (), NINE[:8])))

    def test_a_refused_put_changes_nothing(self):
        self.shelf.alike("a", "b")
        for thing in (("a", (), (("show", "z"),)), ("a", (), NINE), ("b", (), ()), None):
            self.assertIsNotNone(refused(self.put, "a", thing))
        self.assertEqual(self.shelf.book(), self.book)
        self.shelf.alike("a", "b")
        self.assertEqual(self.shelf.walked(), 1)

    def test_true_and_one_are_two(self):
        self.put("a", piece("a", "set x 1 ; if x 0 { } { }"))
        kept = self.shelf.book()
        for row in ((("set", "x", True), ("if", "x", 0, (), ())), (("set", "x", 1), ("if", "x", False, (), ()))):
            self.assertEqual(refused(self.put, "a", ("a", (), row))[0], BadBook)
        self.assertEqual(self.shelf.book(), kept)

    def test_forget(self):
        self.assertIsNone(self.shelf.forget("b"))
        self.assertEqual(self.shelf.names(), ("a", "c", "d", "e"))
        self.assertIs("b" in self.shelf, False)
        self.assertEqual(refused(self.shelf.forget, "b"), (Missing, None))
        self.put("b", self.book[1][1])
        self.assertEqual(self.shelf.names(), ("a", "c", "d", "e", "b"))


class TestAnswers(ShelfCase):

    def test_as_the_functions(self):
        for name in self.shelf.names():
            self.assertEqual(self.shelf.ends(name), reach.ends(self.book, name))
            self.assertEqual(self.shelf.quiet(name), reach.is_quiet(self.book, name))
            self.assertEqual(self.shelf.lean(name), shorter.lean(self.book, name))
        for one in self.shelf.names():
            for other in self.shelf.names():
                if (one == "e") == (other == "e"):
                    self.assertIs(self.shelf.alike(one, other), alike.are_alike(self.book, one, other))
                    program = self.shelf.parting(one, other)
                    self.assertEqual(program is None, alike.are_alike(self.book, one, other))
                    if program is not None:
                        self.assertNotEqual(play(self.book, program), play_with(self.book, program, one, other))
        self.assertEqual(self.shelf.classes(), alike.classes(self.book))
        self.assertEqual(self.shelf.classes(), [["a"], ["b"], ["c", "d"], ["e"]])

    def test_of_the_book_as_it_is_now(self):
        self.put("c", piece("c", "yield"))
        self.assertEqual(self.shelf.classes(), [["a"], ["b"], ["c"], ["d"], ["e"]])
        self.assertIs(self.shelf.quiet("c"), True)
        self.assertEqual(list(self.shelf.ends("c")), ["closed", "ended", "yielded"])
        self.assertIs(self.shelf.alike("c", "d"), False)
        self.put("c", piece("c", "reset t", "t token"))
        self.assertIs(self.shelf.alike("c", "e"), True)
        self.assertEqual(refused(self.shelf.alike, "c", "d"), (BadQuestion, None))
        self.shelf.forget("a")
        self.assertEqual(self.shelf.classes(), [["b"], ["c", "e"], ["d"]])
        self.assertEqual(refused(self.shelf.parting, "a", "b"), (Missing, None))

    def test_pieces_that_are_not_comparable(self):
        for ask in (self.shelf.alike, self.shelf.parting):
            for pair in (("a", "e"), ("e", "a"), ("e", "d")):
                self.assertEqual(refused(ask, *pair), (BadQuestion, None))

    def test_each_order_has_a_program_of_its_own(self):
        for first, second in (("a", "b"), ("b", "a")):
            shelf = Shelf(self.book)
            for one, other in ((first, second), (second, first)):
                program = shelf.parting(one, other)
                self.assertEqual([step[2] for step in program if step[0] == "make"], [one])
                self.assertNotEqual(play(self.book, program), play_with(self.book, program, one, other))
            self.assertEqual(shelf.walked(), 1)

    def test_what_is_told_is_the_callers_own(self):
        told = self.shelf.classes()
        told[0].append("z")
        told.clear()
        self.assertEqual(self.shelf.classes(), [["a"], ["b"], ["c", "d"], ["e"]])
        ends = self.shelf.ends("a")
        kept = dict(ends)
        ends.clear()
        self.assertEqual(self.shelf.ends("a"), kept)

    def test_what_was_told_stays_when_the_shelf_changes(self):
        program, names, book, rows = self.shelf.parting("a", "b"), self.shelf.names(), self.shelf.book(), self.shelf.classes()
        self.shelf.forget("a")
        self.put("b", piece("b", "fail"))
        self.assertEqual((names, book), (("a", "b", "c", "d", "e"), self.book))
        self.assertEqual(rows, [["a"], ["b"], ["c", "d"], ["e"]])
        self.assertNotEqual(play(self.book, program), play_with(self.book, program, "a", "b"))


class TestWalked(ShelfCase):

    def assert_walked(self, many):
        self.assertEqual(self.shelf.walked(), many)

    def test_none_at_first(self):
        self.assert_walked(0)

    def test_a_pair_is_walked_once_in_either_order(self):
        self.shelf.alike("a", "b")
        self.assert_walked(1)
        for ask in (self.shelf.alike, self.shelf.parting):
            for pair in (("a", "b"), ("b", "a")):
                for _ in range(2):
                    ask(*pair)
        self.assert_walked(1)
        self.shelf.parting("d", "c")
        self.assert_walked(2)
        self.shelf.alike("c", "d")
        self.assert_walked(2)

    def test_a_parting_is_told_again(self):
        for pair in (("a", "b"), ("b", "a"), ("c", "d"), ("d", "a")):
            program = self.shelf.parting(*pair)
            self.assertEqual(self.shelf.parting(*pair), program)
        self.assert_walked(3)

    def test_nothing_else_counts(self):
        for name in self.shelf.names():
            self.shelf.alike(name, name)
            self.assertIsNone(self.shelf.parting(name, name))
            self.shelf.ends(name)
            self.shelf.quiet(name)
            self.shelf.lean(name)
        self.shelf.covered_by(Shelf(self.book))
        self.shelf.covered_by(self.shelf)
        self.assertTrue(self.shelf == Shelf(self.book))
        self.shelf.book(), self.shelf.names(), len(self.shelf), "a" in self.shelf, self.shelf["a"]
        for ask in (self.shelf.alike, self.shelf.parting):
            self.assertEqual(refused(ask, "a", "e"), (BadQuestion, None))
            self.assertEqual(refused(ask, "a", "z"), (Missing, None))
        self.assert_walked(0)

    def test_also_where_other_pairs_would_tell_it(self):
        shelf = Shelf(read_book("vars x; piece a {}; piece b {}; piece c {}"))
        for many, pair in enumerate((("a", "b"), ("b", "c"), ("a", "c"))):
            self.assertIs(shelf.alike(*pair), True)
            self.assertEqual(shelf.walked(), many + 1)

    def test_classes_needs_the_pairs_that_its_words_ask(self):
        shelf = Shelf(read_book("vars x; piece a {}; piece b {}; piece c { fail }; piece d c context {}; piece e {};"
                                "piece f { fail }"))
        self.assertEqual(shelf.classes(), [["a", "b", "e"], ["c", "f"], ["d"]])
        # a b, a c, a e, a f, c f: none of e and c, as e is at home with a by then.
        self.assertEqual(shelf.walked(), 5)
        shelf.classes()
        self.assertEqual(shelf.walked(), 5)
        shelf.alike("e", "c")
        self.assertEqual(shelf.walked(), 6)
        for pair in (("a", "b"), ("c", "a"), ("e", "a"), ("f", "a"), ("f", "c")):
            shelf.alike(*pair)
        self.assertEqual(shelf.walked(), 6)

    def test_classes_uses_what_was_found(self):
        self.shelf.alike("b", "a")
        self.shelf.alike("d", "c")
        self.assertEqual(self.shelf.classes(), [["a"], ["b"], ["c", "d"], ["e"]])
        # a b, a c, b c, a d, b d, c d are asked for.
        self.assert_walked(6)

    def test_put_with_another_piece(self):
        self.shelf.alike("a", "b")
        self.shelf.alike("c", "d")
        self.shelf.alike("b", "c")
        self.put("b", piece("b", "yield"))
        self.shelf.alike("c", "d")
        self.assert_walked(3)
        self.shelf.alike("a", "b")
        self.shelf.alike("c", "b")
        self.assert_walked(5)
        self.put("b", self.book[1][1])
        self.shelf.alike("a", "b")
        self.assert_walked(6)

    def test_put_with_the_same_piece(self):
        self.shelf.alike("a", "b")
        for name in ("a", "b"):
            self.put(name, piece(name, *[("with x 1 { yield }", "hold t x 1; yield; reset t")[name == "b"]]))
        self.shelf.alike("b", "a")
        self.assert_walked(1)
        self.assertEqual(self.shelf.names(), ("a", "b", "c", "d", "e"))

    def test_forgotten_and_put_again(self):
        self.shelf.alike("a", "b")
        self.shelf.alike("c", "d")
        self.shelf.forget("a")
        self.assert_walked(2)
        self.put("a", self.book[1][0])
        self.shelf.alike("c", "d")
        self.assert_walked(2)
        self.shelf.alike("a", "b")
        self.assert_walked(3)

    def test_another_piece_is_forgotten(self):
        self.shelf.alike("a", "b")
        self.shelf.forget("e")
        self.put("f", piece("f", ""))
        self.shelf.alike("a", "b")
        self.assert_walked(1)


class TestTrial(ShelfCase):

    def test_the_book_is_what_it_was(self):
        with self.shelf.trial() as same:
            self.assertIs(same, self.shelf)
            self.put("a", piece("a", "yield"))
            self.put("f", piece("f", ""))
            self.shelf.forget("c")
            self.assertEqual(self.shelf.names(), ("a", "b", "d", "e", "f"))
        self.assertEqual(self.shelf.book(), self.book)

    def test_what_was_found_is_what_it_was_but_walked_goes_on(self):
        self.shelf.alike("a", "b")
        with self.shelf.trial():
            self.shelf.alike("a", "b")
            self.shelf.alike("c", "d")
            self.assertEqual(self.shelf.walked(), 2)
            self.put("a", piece("a", "yield"))
            self.shelf.alike("a", "b")
            self.assertEqual(self.shelf.walked(), 3)
        self.assertEqual(self.shelf.walked(), 3)
        self.shelf.alike("a", "b")
        self.assertEqual(self.shelf.walked(), 3)
        self.shelf.alike("c", "d")
        self.assertEqual(self.shelf.walked(), 4)

    def test_a_failure_goes_on(self):
        program = self.shelf.parting("a", "b")
        for failure in (ZeroDivisionError, BadQuestion("no"), KeyboardInterrupt):
            with self.assertRaises(failure if isinstance(failure, type) else BadQuestion):
                with self.shelf.trial():
                    self.shelf.forget("a")
                    raise failure
            self.assertEqual(self.shelf.book(), self.book)
            self.assertEqual(self.shelf.parting("a", "b"), program)
            self.assertEqual(self.shelf.walked(), 1)

    def test_a_refusal_within(self):
        with self.assertRaises(TooGreat):
            with self.shelf.trial():
                self.shelf.forget("e")
                self.put("a", ("a", (), NINE))
        self.assertEqual(self.shelf.book(), self.book)

    def test_within_one_another(self):
        with self.shelf.trial():
            self.shelf.forget("a")
            inner = self.shelf.book()
            self.shelf.alike("b", "c")
            with self.shelf.trial():
                self.shelf.forget("b")
                self.shelf.alike("c", "d")
            self.assertEqual(self.shelf.book(), inner)
            self.shelf.alike("b", "c")
            self.assertEqual(self.shelf.walked(), 2)
            self.shelf.alike("c", "d")
            self.assertEqual(self.shelf.walked(), 3)
        self.assertEqual(self.shelf.book(), self.book)
        self.shelf.alike("c", "b")
        self.assertEqual(self.shelf.walked(), 4)

    def test_made_ahead_of_a_put_and_begun_behind_it(self):
        trial = self.shelf.trial()
        self.shelf.forget("a")
        self.shelf.alike("b", "c")
        kept = self.shelf.book()
        with trial:
            self.shelf.forget("b")
        self.assertEqual(self.shelf.book(), kept)
        self.shelf.alike("b", "c")
        self.assertEqual(self.shelf.walked(), 1)

    def test_made_and_never_begun(self):
        self.shelf.trial()
        self.shelf.forget("a")
        self.assertEqual(self.shelf.names(), ("b", "c", "d", "e"))

    def test_under(self):
        told = under(self.shelf.trial(), lambda shelf: (shelf.forget("a"), shelf.classes())[1])
        self.assertEqual(told, [["b"], ["c", "d"], ["e"]])
        self.assertEqual(self.shelf.book(), self.book)

    def test_of_two_shelves(self):
        other = Shelf(self.book)
        with self.shelf.trial(), other.trial():
            self.shelf.forget("a")
            other.forget("b")
        self.assertEqual((self.shelf.book(), other.book()), (self.book, self.book))


class TestComparisons(ShelfCase):

    def test_equal(self):
        self.assertIs(self.shelf == Shelf(read_book(TEXT)), True)
        self.assertIs(self.shelf != Shelf(read_book(TEXT)), False)
        other = Shelf(self.book)
        other.alike("a", "b")
        self.assertIs(self.shelf == other, True)
        other.forget("e")
        self.assertIs(self.shelf == other, False)
        other["e"] = self.book[1][4]
        self.assertIs(self.shelf == other, True)
        other.forget("a")
        other["a"] = self.book[1][0]
        self.assertIs(self.shelf == other, False)

    def test_equal_to_something_else(self):
        for thing in (None, 0, "shelf", self.book, (), Context(), object()):
            self.assertIs(self.shelf == thing, False)

    def test_covered_by(self):
        def covered(one, other):
            return Shelf(read_book(one)).covered_by(Shelf(read_book(other)))
        for one, other, told in (
                ("vars x", "vars x", True), ("vars x", "vars y", False), ("vars x y", "vars y x", False),
                ("vars x", "vars x y", False), ("vars x", "vars x; piece a {}", True), ("vars x; piece a {}", "vars x", False),
                ("vars x; piece a {}; piece b { set x 1; set x 2 }", "vars x; piece z { set x 2 }; piece y { guard {} {} }", True),
                ("vars x; piece a {}; piece b { fail }", "vars x; piece a {}", False),
                ("vars x; piece a {}", "vars x; piece a {}; piece b { fail }", True),
                ("vars x; piece a c context {}", "vars x; piece a {}", False),
                ("vars x; piece a c context {}", "vars x; piece a { fail }; piece b d context {}", True),
                ("vars x; piece a c context t token {}", "vars x; piece a t token c context {}", False),
                ("vars x y; piece a { set x 1 }", "vars x y; piece a { set y 1 }", False)):
            self.assertIs(covered(one, other), told, (one, other))
        self.assertIs(self.shelf.covered_by(self.shelf), True)


class TestAtLength(unittest.TestCase):

    def test_drawn_changes_against_a_shelf_that_is_made_anew(self):
        for seed in range(25):
            drawer, chance = Drawer(seed, most=5), random.Random(seed)
            shelf = Shelf((("x", "y"), ()))
            found, walked = {}, 0
            for _ in range(30):
                name = chance.choice("abcd")
                deed = chance.choice(("put", "put", "forget", "alike", "alike", "parting", "classes"))
                if deed == "put":
                    new = drawer.piece(name, ())
                    if name not in shelf or shelf[name] != new:
                        found = {pair: True for pair in found if name not in pair}
                    shelf[name] = new
                elif deed == "forget" and name in shelf:
                    shelf.forget(name)
                    found = {pair: True for pair in found if name not in pair}
                elif deed in ("alike", "parting") and len(shelf) > 1:
                    one, other = chance.sample(shelf.names(), 2)
                    asked = [frozenset((one, other))]
                    told = getattr(shelf, deed)(one, other)
                    expected = alike.parting(shelf.book(), one, other)
                    self.assertEqual(told if deed == "alike" else told is None, expected is None)
                    walked, found = self.count(walked, found, asked)
                elif deed == "classes":
                    self.assertEqual(shelf.classes(), alike.classes(shelf.book()))
                    walked, found = self.count(walked, found, self.asked_by_classes(shelf))
                self.assertEqual(shelf.walked(), walked)

    def count(self, walked, found, asked):
        new = [pair for pair in asked if pair not in found]
        return walked + len(new), {**found, **{pair: True for pair in new}}

    def asked_by_classes(self, shelf):
        asked = []
        for at, name in enumerate(shelf.names()):
            for row in alike.classes((shelf.book()[0], shelf.book()[1][:at])):
                asked.append(frozenset((row[0], name)))
                if alike.are_alike(shelf.book(), row[0], name):
                    break
        return asked


if __name__ == "__main__":
    unittest.main()

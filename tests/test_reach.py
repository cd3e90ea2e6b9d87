"""What can come of a piece in any program: ENDs [23], REACHED statements [24], QUIET and LOUD pieces [25]."""

import unittest

from drawn import Drawer
from own_player import OwnPlayer, turns_of
from own_search import found_of
from samples import odd_tuples, odd_values
from stepwhere.alike import are_alike
from stepwhere.booktexts import book_text, read_book
from stepwhere.errors import BadBook, BadQuestion, TooGreat
from stepwhere.pieces import is_book, statements_of
from stepwhere.play import play
from stepwhere.programs import calls_in, need_program
from stepwhere.programtexts import program_text, read_program
from stepwhere.reach import ends, is_quiet, noise, reached
from stepwhere.shorter import replaced

ASKED = (ends, reached, noise, is_quiet)
BAD_BOOK = (("x",), (("p", (), (("nothing",),)),))


def book_of(rows, params="", variables="x y"):
    return read_book(f"vars {variables} ; piece p {params} {{ {rows} }}")


def makes_in(steps):
    """The names of the pieces that are made in a program."""
    found = [step[2] for step in steps if step[0] == "make"]
    for step in steps:
        if step[0] in ("within", "guard"):
            found.extend(makes_in(step[-1]))
    return found


def with_mark(book, way):
    """The book in which the piece shows the variable z ahead of the statement to which way leads."""
    variables, (piece,) = book
    statement = dict(statements_of(book, "p"))[way]
    return (variables + ("z",), (replaced(piece, way, (("show", "z"), statement)),))


MARK = ("shown", "z", 1)


class ReachCase(unittest.TestCase):

    def assert_program(self, book, program, turns=None):
        """A program of the book with one "make", all of whose turns are done; how many there are if it is told."""
        need_program(book, program)
        self.assertEqual(makes_in(program), ["p"])
        text = program_text(book, program)
        self.assertLessEqual(len(text), 300000)
        self.assertEqual(read_program(book, text), program)
        done = turns_of(book, program)
        self.assertEqual(len(done), calls_in(book, program), text)
        if turns is not None:
            self.assertEqual(len(done), turns, text)
        return done

    def assert_ends(self, rows, told, params="", variables="x y"):
        """The ENDs of the piece, and how many turns each takes."""
        book = book_of(rows, params, variables)
        found = ends(book, "p")
        self.assertEqual(list(found), sorted(told), rows)
        for end, program in found.items():
            done = self.assert_program(book, program, told[end])
            self.assertEqual(done[-1].end, end)
            self.assertNotIn(end, [turn.end for turn in done[:-1]])
            event = (end,) if end in ("yielded", "ended", "closed") else ("failed", end)
            self.assertEqual(play(book, program)[-1], event)

    def assert_reached(self, rows, told, params="", variables="x y"):
        """The ways to the statements that are reached, and how many turns each takes."""
        book = book_of(rows, params, variables)
        found = reached(book, "p")
        self.assertEqual({way: calls_in(book, program) for way, program in found.items()}, told, rows)
        ways = [way for way, _ in statements_of(book, "p")]
        self.assertEqual(list(found), [way for way in ways if way in found])
        for way, program in found.items():
            self.assert_program(book, program, told[way])
            self.assert_begun_last(book, way, program)

    def assert_begun_last(self, book, way, program):
        """The statement is begun in the last turn alone."""
        done = turns_of(with_mark(book, way), (("set", "z", 1),) + program)
        begun = [MARK in turn.events for turn in done]
        self.assertEqual(begun, [False] * (len(done) - 1) + [True], (book_text(book), way))

    def assert_loud(self, turns, rows, params="", variables="x y"):
        book = book_of(rows, params, variables)
        program = noise(book, "p")
        self.assertIs(is_quiet(book, "p"), False, rows)
        self.assertEqual([turn.is_loud for turn in self.assert_program(book, program, turns)], [False] * (turns - 1) + [True])
        return program

    def assert_quiet(self, rows, params="", variables="x y"):
        book = book_of(rows, params, variables)
        self.assertIsNone(noise(book, "p"), rows)
        self.assertIs(is_quiet(book, "p"), True)


class TestEnds(ReachCase):

    def test_yielded_ended_closed(self):
        self.assert_ends("", {"closed": 1, "ended": 1})
        self.assert_ends("yield", {"closed": 1, "yielded": 1, "ended": 2})
        self.assert_ends("yield ; yield ; yield", {"closed": 1, "yielded": 1, "ended": 4})
        self.assert_ends("loop { yield }", {"closed": 1, "yielded": 1})
        self.assert_ends("loop { yield ; if x 5 { leave } { } }", {"closed": 1, "yielded": 1, "ended": 2})

    def test_own(self):
        self.assert_ends("fail", {"closed": 1, "own": 1})
        self.assert_ends("yield ; fail", {"closed": 1, "yielded": 1, "own": 2})
        self.assert_ends("guard { fail } { }", {"closed": 1, "ended": 1})
        self.assert_ends("if x 5 { fail } { }", {"closed": 1, "ended": 1, "own": 1})
        self.assert_ends("set x 4 ; if x 5 { fail } { }", {"closed": 1, "ended": 1})

    def test_unset(self):
        for rows in ("show x", "set y x", "hold t y x", "with y x { }"):
            self.assert_ends(rows, {"closed": 1, "ended": 1, "unset": 1})
        self.assert_ends("drop x ; show x", {"closed": 1, "unset": 1})
        self.assert_ends("set x 1 ; show x", {"closed": 1, "ended": 1})
        # Where the reset fails, its word takes the place of "unset".
        self.assert_ends("with x 1 { yield ; show x }",
                         {"closed": 1, "yielded": 1, "ended": 2, "unset": 2, "elsewhere": 2})

    def test_empty(self):
        for rows in ("reset t", "within c { }"):
            self.assert_ends(rows, {"closed": 1, "empty": 1})
        self.assert_ends("copy c ; within c { }", {"closed": 1, "ended": 1})
        self.assert_ends("if x 1 { copy c } { } ; within c { }", {"closed": 1, "ended": 1, "empty": 1})

    def test_used(self):
        self.assert_ends("hold t x 1 ; reset t ; reset t", {"closed": 1, "used": 1})
        self.assert_ends("hold t x 1 ; reset t", {"closed": 1, "ended": 1})
        # By a token that was used ahead of the first turn, or between two.
        self.assert_ends("reset t", {"closed": 1, "ended": 1, "empty": 1, "used": 1, "elsewhere": 1}, "t token")
        self.assert_ends("reset s ; reset t", {"closed": 1, "ended": 1, "empty": 1, "used": 1, "elsewhere": 1},
                         "s token t token")
        self.assert_ends("guard { reset t ; yield } { } ; reset t",
                         {"closed": 1, "yielded": 1, "empty": 1, "used": 1, "elsewhere": 1}, "t token")

    def test_used_in_a_turn_ahead(self):
        self.assert_ends("hold t x 1 ; reset t ; yield ; reset t", {"closed": 1, "yielded": 1, "used": 2})
        self.assert_ends("copy c ; within c { hold t x 1 } ; yield ; reset t", {"closed": 1, "yielded": 1, "elsewhere": 2})
        self.assert_ends("copy c ; within c { hold t x 1 ; reset t } ; yield ; within c { reset t }",
                         {"closed": 1, "yielded": 1, "used": 2})
        self.assert_ends("reset t ; yield ; reset t",
                         {"closed": 1, "yielded": 1, "empty": 1, "used": 1, "elsewhere": 1}, "t token")
        self.assert_ends("guard { reset t } { fail } ; yield ; reset t",
                         {"closed": 1, "yielded": 1, "own": 1, "used": 2}, "t token")
        # What was used up ahead of the first turn stays so: where the reset of s succeeds that of t cannot.
        self.assert_ends("hold s x 0 ; guard { reset t } { yield ; reset s ; reset t ; fail }",
                         {"closed": 1, "yielded": 1, "ended": 1, "empty": 2, "elsewhere": 2, "used": 2}, "t token")

    def test_the_second_token_behind_a_turn_that_uses_the_first(self):
        told = {"closed": 1, "yielded": 1, "ended": 2, "empty": 2, "elsewhere": 2, "used": 2}
        self.assert_ends("guard { reset s } { } ; yield ; reset t", told, "s token t token")
        self.assert_ends("guard { reset t } { } ; yield ; reset s", told, "s token t token")
        self.assert_ends("guard { reset s } { } ; yield ; reset t", told, "t token s token", "x")
        self.assert_ends("reset s ; yield ; guard { reset t } { fail }",
                         {"closed": 1, "yielded": 1, "empty": 1, "elsewhere": 1, "used": 1, "own": 2, "ended": 2},
                         "s token t token")

    def test_values_that_differ_from_all_integers_of_the_piece(self):
        self.assert_ends("if x 99 { } { if y 99 { } { if x 98 { } { if y 98 { } { fail } } } }",
                         {"closed": 1, "ended": 1, "own": 1})
        self.assert_ends("if x 99 { } { yield ; if x 99 { } { if y 98 { } { yield ; if x 97 { } { fail } } } }",
                         {"closed": 1, "ended": 1, "yielded": 1, "own": 3})

    def test_what_a_slot_holds_behind_a_failure_a_turn_later(self):
        self.assert_ends("copy c ; guard { yield ; fail } { within c { } }", {"closed": 1, "yielded": 1, "ended": 2})
        self.assert_ends("hold t x 1 ; guard { yield ; fail } { reset t }",
                         {"closed": 1, "yielded": 1, "elsewhere": 2, "ended": 2})
        self.assert_ends("copy c ; loop { within c { } ; yield }", {"closed": 1, "yielded": 1})

    def test_elsewhere(self):
        self.assert_ends("with x 1 { yield }", {"closed": 1, "yielded": 1, "ended": 2, "elsewhere": 2})
        self.assert_ends("with x 1 { }", {"closed": 1, "ended": 1})
        self.assert_ends("copy c ; hold t x 1 ; within c { reset t }", {"closed": 1, "elsewhere": 1})
        self.assert_ends("hold t x 1 ; yield ; reset t", {"closed": 1, "yielded": 1, "ended": 2, "elsewhere": 2})
        self.assert_ends("yield ; hold t x 1 ; reset t", {"closed": 1, "yielded": 1, "ended": 2})

    def test_entered(self):
        self.assert_ends("within c { }", {"closed": 1, "ended": 1, "empty": 1, "entered": 1}, "c context")
        self.assert_ends("copy c ; within c { }", {"closed": 1, "ended": 1}, "c context")
        self.assert_ends("copy c ; within c { within c { } }", {"closed": 1, "entered": 1})
        self.assert_ends("within c { within d { } }", {"closed": 1, "ended": 1, "empty": 1, "entered": 1},
                         "c context d context")

    def test_entered_by_a_context_around_the_current_one(self):
        # The first step enters c, so its own context is another one; so is that of the second, or the reset fails.
        rows = "guard { within c { } } { fail } ; hold t x 1 ; yield ; reset t ; within c { }"
        told = {"closed": 1, "yielded": 1, "own": 1, "elsewhere": 2, "ended": 2, "entered": 2}
        self.assert_ends(rows, told, "c context")
        self.assert_ends(rows, told, "c context d context")
        self.assert_ends(rows.replace("within c", "within d"), told, "c context d context")

    def test_ignored(self):
        self.assert_ends("guard { with x 1 { yield } } { yield }",
                         {"closed": 1, "yielded": 1, "ended": 2, "ignored": 2})
        self.assert_ends("guard { yield } { yield }", {"closed": 1, "yielded": 1, "ended": 2})
        self.assert_ends("guard { with x 1 { yield } } { show x } ; yield",
                         {"closed": 1, "yielded": 1, "ended": 3, "ignored": 2, "unset": 2})

    def test_an_end_that_only_a_closing_brings(self):
        self.assert_ends("guard { with x 1 { loop { yield } } } { fail }", {"closed": 1, "yielded": 1, "own": 2})
        self.assert_ends("guard { with x 1 { loop { yield } } } { }", {"closed": 1, "yielded": 1, "ended": 2})

    def test_an_end_that_hangs_on_what_was_not_asked(self):
        # Only where y is 1 at the first turn can the token remember that x was unset.
        self.assert_ends("if y 1 { } { show x } ; hold t x 0 ; yield ; reset t ; guard { show x } { fail }",
                         {"closed": 1, "yielded": 1, "unset": 1, "elsewhere": 2, "ended": 2, "own": 2})

    def test_over_is_none(self):
        for rows in ("", "fail", "yield"):
            self.assertNotIn("over", ends(book_of(rows), "p"))

    def test_far_on(self):
        self.assert_ends("with x 0 { copy c } ; loop { yield ; within c { if x 3 { fail } { set x 3 } } }",
                         {"closed": 1, "yielded": 1, "own": 3})

    def test_a_play_goes_on_behind_an_ignored_closing(self):
        self.assert_ends("guard { with x 1 { loop { yield } } } { yield ; fail }",
                         {"closed": 1, "yielded": 1, "ignored": 2, "own": 3})


class TestReached(ReachCase):

    def test_every_one(self):
        self.assert_reached("", {})
        self.assert_reached("show x ; set x 1", {(0,): 1, (1,): 1})
        self.assert_reached("yield ; if x 1 { drop x } { yield } ; fail",
                            {(0,): 1, (1,): 2, (1, 0, 0): 2, (1, 1, 0): 2, (2,): 2})
        self.assert_reached("copy c ; hold t x 1 ; within c { reset t ; fail } ; show x",
                            {(0,): 1, (1,): 1, (2,): 1, (2, 0, 0): 1})

    def test_begun_also_if_it_fails(self):
        self.assert_reached("fail ; fail", {(0,): 1})
        self.assert_reached("reset t ; fail", {(0,): 1})
        self.assert_reached("drop x ; with x x { fail }", {(0,): 1, (1,): 1})
        self.assert_reached("within c { fail }", {(0,): 1})

    def test_never(self):
        self.assert_reached("set x 1 ; if x 1 { } { show x }", {(0,): 1, (1,): 1})
        self.assert_reached("if x 1 { if x 2 { fail } { show x } } { }", {(0,): 1, (0, 0, 0): 1, (0, 0, 0, 1, 0): 1})
        self.assert_reached("loop { yield } ; fail", {(0,): 1, (0, 0, 0): 1})
        self.assert_reached("guard { set x 1 ; yield } { show y }", {(0,): 1, (0, 0, 0): 1, (0, 0, 1): 1})
        self.assert_reached("copy c ; within c { within c { show x } }", {(0,): 1, (1,): 1, (1, 0, 0): 1})
        self.assert_reached("loop { leave ; yield ; fail }", {(0,): 1, (0, 0, 0): 1})

    def test_only_behind_a_failure(self):
        self.assert_reached("guard { show x } { show y }", {(0,): 1, (0, 0, 0): 1, (0, 1, 0): 1})
        self.assert_reached("guard { yield ; fail } { show y }",
                            {(0,): 1, (0, 0, 0): 1, (0, 0, 1): 2, (0, 1, 0): 2})

    def test_only_in_another_context(self):
        self.assert_reached("guard { with x 1 { yield } } { show x }",
                            {(0,): 1, (0, 0, 0): 1, (0, 0, 0, 0, 0): 1, (0, 1, 0): 2})
        self.assert_reached("guard { within c { } } { within c { show x } }",
                            {(0,): 1, (0, 0, 0): 1, (0, 1, 0): 1}, "c context")

    def test_only_by_a_closing(self):
        self.assert_reached("guard { with x 1 { loop { yield } } } { show y ; yield ; show x }",
                            {(0,): 1, (0, 0, 0): 1, (0, 0, 0, 0, 0): 1, (0, 0, 0, 0, 0, 0, 0): 1,
                             (0, 1, 0): 2, (0, 1, 1): 2, (0, 1, 2): 3})
        book = book_of("guard { with x 1 { loop { yield } } } { show y }")
        self.assertEqual([turn.word for turn in turns_of(book, reached(book, "p")[0, 1, 0])], ["step", "close"])

    def test_two_that_are_left_with_the_same_rest(self):
        self.assert_reached("if x 1 { yield ; show x } { yield ; show x }",
                            {(0,): 1, (0, 0, 0): 1, (0, 0, 1): 2, (0, 1, 0): 1, (0, 1, 1): 2})

    def test_by_a_value_that_was_copied_two_turns_ahead(self):
        self.assert_reached("copy c ; yield ; yield ; within c { if x 7 { show y } { } }",
                            {(0,): 1, (1,): 1, (2,): 2, (3,): 3, (3, 0, 0): 3, (3, 0, 0, 0, 0): 3})

    def test_what_a_token_of_the_program_remembers(self):
        self.assert_reached("reset t ; if x 7 { show x } { if x 8 { show y } { } }",
                            {(0,): 1, (1,): 1, (1, 0, 0): 1, (1, 1, 0): 1, (1, 1, 0, 0, 0): 1}, "t token")


class TestNoise(ReachCase):

    def test_quiet_ones(self):
        for rows in ("", "fail", "yield", "show x", "with x 1 { show x }", "hold t x 1 ; reset t", "copy c",
                     "copy c ; within c { set x 1 }", "if x 1 { set x 1 } { }", "set x x",
                     "loop { with x 1 { } ; yield }", "reset t", "guard { within c { set x 1 } } { }",
                     "hold t x 1 ; guard { show x } { } ; reset t"):
            self.assert_quiet(rows)

    def test_loud_by_a_variable(self):
        for rows in ("set x 1", "drop x", "set x y", "hold t x 1", "set x 1 ; fail", "if x 1 { } { set x 1 }",
                     "if x 1 { drop x } { }", "set x 1 ; yield ; fail", "guard { set x 1 ; fail } { }",
                     "with x 1 { yield }", "with y 2 { set x 2 }", "hold t x 1 ; hold s x 2 ; reset s"):
            self.assert_loud(1, rows)
        self.assert_loud(2, "yield ; drop y")
        self.assert_loud(3, "yield ; yield ; if x 5 { set x 6 } { }")

    def test_put_back_within_a_turn_and_over_two(self):
        self.assert_quiet("hold t x 1 ; reset t ; yield")
        self.assert_loud(1, "hold t x 1 ; yield ; reset t")
        self.assert_quiet("yield ; with x 1 { with y 2 { } }")

    def test_by_a_closing(self):
        # The first step makes x what it is already, the others do nothing.
        rows = "if x 1 { with x 1 { loop { yield } } } { }"
        program = self.assert_loud(2, rows)
        self.assertEqual([turn.word for turn in turns_of(book_of(rows), program)], ["step", "close"])

    def test_a_context_that_only_the_piece_holds(self):
        self.assert_quiet("copy c ; loop { within c { set x 1 ; set y 2 } ; yield }")
        self.assert_quiet("copy c ; within c { set x 1 }", "c context")

    def test_a_context_that_is_handed_in(self):
        self.assert_loud(1, "within c { set x 1 }", "c context")
        self.assert_loud(2, "yield ; within c { drop x }", "c context")
        self.assert_quiet("within c { show x ; with x 1 { } }", "c context")

    def test_a_token_that_is_handed_in(self):
        self.assert_loud(1, "reset t", "t token")
        self.assert_loud(2, "yield ; guard { reset t } { }", "t token")
        self.assert_quiet("hold t x 1 ; reset t", "t token")

    def test_a_token_alone(self):
        # All that the reset does to the variables is undone: only the token is another one.
        program = self.assert_loud(1, "with x 1 { with y 1 { guard { reset t } { } } }", "t token")
        book = book_of("with x 1 { with y 1 { guard { reset t } { } } }", "t token")
        player = OwnPlayer(book, program)
        self.assertEqual([token.is_used for slot, token in player.slots.items() if player.kinds[slot] == "token"], [True])

    def test_values_that_are_the_same_by_chance(self):
        self.assert_loud(1, "set x 1", variables="x")
        self.assert_loud(1, "set x y ; set y x")
        self.assert_quiet("if x 1 { set x 1 } { if x 2 { set x 2 } { } }")


class TestErrors(unittest.TestCase):

    def test_bad_book_then_bad_question_then_too_great(self):
        nine = " ; ".join(["fail"] * 9)
        book = read_book("vars x y; piece a {}; piece p { " + nine + " }")
        for ask in ASKED:
            for thing in odd_values() + odd_tuples():
                with self.assertRaises(BadBook):
                    ask(thing, None)
            with self.assertRaises(BadBook) as caught:
                ask(BAD_BOOK, "z")
            self.assertEqual(caught.exception.place, (0, (0,)))
            for thing in odd_values() + odd_tuples() + ["x", "z"]:
                with self.assertRaises(BadQuestion):
                    ask(book, thing)
            with self.assertRaises(TooGreat) as caught:
                ask(book, "p")
            self.assertEqual(caught.exception.place, (1,))
            with self.assertRaises(TooGreat) as caught:
                ask(read_book("vars x y z; piece p {}; piece q {" + nine + "}"), "p")
            self.assertEqual(caught.exception.place, ("vars",))
            ask(book, "a")

    def test_what_is_told_is_the_callers_own(self):
        book = book_of("yield ; fail")
        for ask in (ends, reached):
            told = ask(book, "p")
            kept = dict(told)
            told.clear()
            self.assertEqual(ask(book, "p"), kept)


class TestDrawn(ReachCase):

    def test_with_the_own_search(self):
        seen = {}
        shapes = ((("x",), (), 3, 8), (("x", "y"), (), 2, 8), (("x",), (("c", "context"),), 2, 4),
                  (("x",), (("t", "token"),), 2, 2), (("x",), (("c", "context"), ("t", "token")), 1, 6),
                  (("x",), (("s", "token"), ("t", "token")), 1, 6))
        for at, (variables, params, many, pieces) in enumerate(shapes):
            for seed in range(pieces):
                book = (variables, (Drawer(100 * at + seed, variables, most=6, numbers=(1,)).piece("p", params),))
                told, loud = ends(book, "p"), noise(book, "p")
                for thing, turns in found_of(book, "p", (1,), params, many).items():
                    program = loud if thing is None else told.get(thing)
                    self.assertIsNotNone(program, (thing, book_text(book)))
                    self.assertLessEqual(calls_in(book, program), turns, (thing, book_text(book)))
                    seen[thing] = True
        self.assertGreater(len(seen), 7)

    def test_with_drawn_programs(self):
        counts = {}
        for seed in range(500):
            drawer = Drawer(seed)
            book = (drawer.variables, (drawer.piece("p"),))
            told, loud = ends(book, "p"), noise(book, "p")
            self.assertIs(is_quiet(book, "p"), loud is None)
            for end, program in told.items():
                self.assertEqual(self.assert_program(book, program)[-1].end, end)
                counts[end, calls_in(book, program)] = True
            if loud is not None:
                self.assertEqual([turn.is_loud for turn in self.assert_program(book, loud)],
                                 [False] * (calls_in(book, loud) - 1) + [True])
                counts["loud", calls_in(book, loud)] = True
            for _ in range(10):
                program = drawer.program(book, "p", 14)
                for number, turn in enumerate(OwnPlayer(book, program).turns):
                    self.assertTrue(turn.end == "over" or turn.end in told, (book_text(book), turn.end))
                    self.assertTrue(loud is not None or not turn.is_loud, (book_text(book), program_text(book, program)))
                    if turn.end in told:
                        self.assertLessEqual(calls_in(book, told[turn.end]), number + 1)
        for thing in (("own", 2), ("unset", 2), ("elsewhere", 2), ("ignored", 2), ("empty", 2), ("ended", 3), ("loud", 2)):
            self.assertIn(thing, counts)

    def test_statements_with_drawn_programs(self):
        counts = {True: 0, False: 0}
        for seed in range(250):
            drawer = Drawer(seed)
            book = (drawer.variables, (drawer.piece("p"),))
            told = reached(book, "p")
            for way, _ in statements_of(book, "p"):
                counts[way in told] += 1
                marked = with_mark(book, way)
                if way in told:
                    self.assert_program(book, told[way])
                    self.assert_begun_last(book, way, told[way])
                    continue
                for _ in range(6):
                    program = (("set", "z", 1),) + drawer.program(book, "p", 14)
                    self.assertNotIn(MARK, play(marked, program), (book_text(book), way))
                piece = replaced(book[1][0], way, (("fail",),))
                both = (book[0], (book[1][0], ("q",) + piece[1:]))
                if is_book(both):
                    self.assertIs(are_alike(both, "p", "q"), True, (book_text(book), way))
        self.assertGreater(counts[False], 50)


if __name__ == "__main__":
    unittest.main()

"""Programs as they are played, [9] and [11], and with one piece in the place of another."""

import unittest

from drawn import Drawer
from own_player import log_of, turns_of
from samples import Hostile, odd_tuples, odd_values
from stepwhere.booktexts import book_text, read_book
from stepwhere.errors import BadBook, BadProgram, BadQuestion
from stepwhere.play import play, play_with
from stepwhere.programtexts import program_text, read_program


def shown(value, variable="x"):
    return ("shown", variable, value)


def failed(word):
    return ("failed", word)


YIELDED, ENDED, CLOSED = ("yielded",), ("ended",), ("closed",)


class PlayCase(unittest.TestCase):

    def assert_log(self, pieces, program, *log):
        book = read_book("vars x y" + "".join(["; " + piece for piece in pieces.split("/") if piece.strip()]))
        told = read_program(book, program)
        self.assertEqual(play(book, told), log, program)
        self.assertEqual(log_of(book, told), log, program)
        return book, told


class TestSteps(PlayCase):

    def test_the_empty_program(self):
        self.assertEqual(play(read_book("vars x"), ()), ())
        self.assert_log("", "guard { }")

    def test_all_is_unset_at_first(self):
        for variable in ("x", "y"):
            self.assert_log("", f"show {variable}", failed("unset"))

    def test_set_drop_and_show(self):
        self.assert_log("", "set x 0 ; show x ; set x 9999 ; set y 7 ; show x ; show y",
                        shown(0), shown(9999), shown(7, "y"))
        self.assert_log("", "set x 5 ; drop x ; drop y ; show x", failed("unset"))

    def test_hold_and_reset(self):
        self.assert_log("", "set x 1 ; hold t x 2 ; show x ; set x 3 ; reset t ; show x",
                        shown(2), shown(1))
        self.assert_log("", "hold t x 2 ; reset t ; show x", failed("unset"))
        self.assert_log("", "hold t x 2 ; reset t ; set x 5 ; guard { reset t } ; show x", failed("used"), shown(5))
        self.assert_log("", "hold t x 2 ; hold t y 3 ; reset t ; show x ; show y", shown(2), failed("unset"))

    def test_reset_elsewhere(self):
        self.assert_log("", "copy c ; hold t x 2 ; guard { within c { reset t } } ; show x ; reset t ; show x",
                        failed("elsewhere"), shown(2), failed("unset"))
        self.assert_log("", "copy c ; within c { hold t x 2 } ; guard { reset t } ; within c { reset t ; show x }",
                        failed("elsewhere"), failed("unset"))

    def test_used_comes_ahead_of_elsewhere(self):
        self.assert_log("", "copy c ; hold t x 2 ; reset t ; within c { reset t }", failed("used"))

    def test_empty_slots(self):
        for step in ("reset t", "within c { show x }", "step p", "close p"):
            self.assert_log("", step, failed("empty"))
            self.assert_log("", "guard { " + step + " } ; set x 1 ; show x", failed("empty"), shown(1))

    def test_copy_and_within(self):
        self.assert_log("", "set x 1 ; copy c ; set x 2 ; within c { show x ; set x 3 } ; show x ; within c { show x }",
                        shown(1), shown(2), shown(3))
        self.assert_log("", "set x 1 ; copy c ; copy c ; set x 2 ; within c { show x ; show y }", shown(1), failed("unset"))

    def test_within_one_another(self):
        self.assert_log("", "copy c ; copy d ; within c { set x 1 ; within d { set x 2 ; show x } ; show x } ; show x",
                        shown(2), shown(1), failed("unset"))

    def test_entered(self):
        self.assert_log("", "copy c ; within c { guard { within c { set x 1 } } ; show x }", failed("entered"), failed("unset"))
        self.assert_log("", "copy c ; copy d ; within c { within d { within c { } } }", failed("entered"))
        self.assert_log("", "copy c ; guard { within c { show x } } ; within c { set x 1 ; show x }",
                        failed("unset"), shown(1))

    def test_a_slot_that_is_copied_into_while_its_context_is_in_use(self):
        self.assert_log("", "copy c ; within c { set x 1 ; copy c ; set x 2 ; within c { show x } ; show x }",
                        shown(1), shown(2))

    def test_a_failure_gives_the_elder_context_back(self):
        self.assert_log("", "set x 1 ; copy c ; set x 2 ; guard { within c { set x 3 ; reset t ; set x 4 } } ; show x ;"
                        "within c { show x }", failed("empty"), shown(2), shown(3))

    def test_make_and_step(self):
        self.assert_log("piece a { show x ; yield ; show y }",
                        "set x 1 ; set y 2 ; make p a ; step p ; step p ; step p",
                        shown(1), YIELDED, shown(2, "y"), ENDED, failed("over"))

    def test_close(self):
        self.assert_log("piece a { yield }", "make p a ; close p ; close p ; guard { step p } ; close p",
                        CLOSED, CLOSED, failed("over"), CLOSED)
        self.assert_log("piece a { with x 1 { yield } }", "make p a ; step p ; show x ; close p ; show x",
                        YIELDED, shown(1), CLOSED, failed("unset"))

    def test_a_closing_that_goes_on_to_the_end(self):
        self.assert_log("piece a { guard { with x 1 { yield } } { } ; show x }",
                        "make p a ; copy c ; within c { set x 4 } ; step p ; within c { close p } ; close p ; show x",
                        YIELDED, shown(4), ENDED, CLOSED, shown(1))

    def test_each_word_of_a_failing_step(self):
        for rows, word in (("show x", "unset"), ("set y x", "unset"), ("reset t", "empty"), ("fail", "own"),
                           ("hold t x 1 ; reset t ; reset t", "used"), ("within c { }", "empty"),
                           ("copy c ; within c { within c { } }", "entered"),
                           ("copy c ; hold t x 1 ; within c { reset t }", "elsewhere")):
            self.assert_log("piece a { " + rows + " }", "make p a ; guard { step p } ; step p", failed(word), failed("over"))

    def test_the_example_of_point_7(self):
        self.assert_log("piece a { with x 1 { yield } }",
                        "make p a ; step p ; copy c ; guard { within c { step p } } ; show x",
                        YIELDED, failed("elsewhere"), shown(1))

    def test_the_example_of_point_8(self):
        self.assert_log("piece a { guard { with x 1 { yield } } { show x } ; yield }",
                        "copy c ; within c { set x 5 } ; make p a ; step p ; guard { within c { close p } } ; step p",
                        YIELDED, shown(5), failed("ignored"), ENDED)


class TestArgs(PlayCase):

    def test_contexts_and_tokens(self):
        self.assert_log("piece a c context t token { within c { reset t ; show x } }",
                        "set x 8 ; copy c ; within c { hold t x 9 } ; make p a c t ; step p ; within c { show x }",
                        shown(8), ENDED, shown(8))

    def test_what_holds_nothing(self):
        self.assert_log("piece a c context t token { guard { reset t } { } ; within c { } }",
                        "make p a c t ; copy c ; hold t x 1 ; step p", failed("empty"))
        self.assert_log("piece a t token { reset t }", "make p a t ; step p", failed("empty"))

    def test_one_slot_twice(self):
        self.assert_log("piece a s token t token { reset s ; reset t }", "hold t x 1 ; make p a t t ; step p", failed("used"))
        self.assert_log("piece a c context d context { within c { set x 1 } ; within d { show x } }",
                        "copy c ; make p a c c ; step p", shown(1), ENDED)
        self.assert_log("piece a c context d context { within c { within d { } } }",
                        "copy c ; make p a c c ; step p", failed("entered"))

    def test_the_context_handed_in_is_the_very_one(self):
        self.assert_log("piece a c context { within c { show x ; set x 3 } }",
                        "copy c ; make p a c ; within c { set x 2 } ; step p ; within c { show x }",
                        shown(2), ENDED, shown(3))
        self.assert_log("piece a c context { within c { show x } }",
                        "copy c ; make p a c ; within c { set x 2 } ; copy c ; step p", shown(2), ENDED)

    def test_entered_of_a_context_that_the_program_uses(self):
        for program, word in (("within c { step p }", "entered"), ("within c { within d { step p } }", "entered"),
                              ("within d { step p }", None), ("step p", None)):
            self.assert_log("piece a c context { within c { } }", "copy c ; copy d ; make p a c ; " + program,
                            ENDED if word is None else failed(word))

    def test_the_first_context_is_in_use_all_the_time(self):
        # No slot ever holds it: only what the piece copies of it can be entered.
        self.assert_log("piece a { copy c ; within c { show x } }", "set x 1 ; make p a ; step p", shown(1), ENDED)

    def test_a_slot_of_the_program_is_none_of_the_piece(self):
        self.assert_log("piece a t token { hold t x 5 }", "set x 1 ; hold t x 2 ; make p a t ; step p ; reset t ; show x",
                        ENDED, shown(1))
        self.assert_log("piece a { hold t x 5 }", "make p a ; step p ; reset t", ENDED, failed("empty"))


class TestSlots(PlayCase):

    def test_a_slot_that_is_made_a_second_time(self):
        self.assert_log("piece a { with x 1 { yield } ; show y }",
                        "make p a ; step p ; make p a ; show x ; close p ; show x ; step p",
                        YIELDED, shown(1), CLOSED, shown(1), failed("over"))

    def test_two_pieces_of_one(self):
        self.assert_log("piece a { show x ; set x 2 ; yield ; show x }",
                        "set x 1 ; make p a ; make q a ; step p ; step q ; set x 3 ; step p ; close q",
                        shown(1), YIELDED, shown(2), YIELDED, shown(3), ENDED, CLOSED)

    def test_two_pieces_that_take_a_token_from_one_another(self):
        self.assert_log("piece a t token { reset t }", "hold t x 1 ; make p a t ; make q a t ; step p ; step q",
                        ENDED, failed("used"))

    def test_names_of_slots_pieces_and_variables_may_be_the_same(self):
        self.assert_log("piece x x context { within x { show x } }",
                        "copy x ; within x { set x 4 } ; make y x x ; step y", shown(4), ENDED)

    def test_made_in_one_context_stepped_in_another_closed_in_a_third(self):
        self.assert_log("piece a { with x 1 { yield ; show x ; yield } }",
                        "copy c ; copy d ; within c { make p a } ; set x 7 ; within d { step p } ; guard { step p } ;"
                        "guard { within c { close p } } ; within d { show x } ; show x",
                        YIELDED, shown(7), YIELDED, failed("elsewhere"), shown(1), shown(7))


class TestFailures(PlayCase):

    def test_the_whole_play_ends(self):
        self.assert_log("", "set x 1 ; show y ; show x", failed("unset"))
        self.assert_log("", "copy c ; within c { within t { } ; set x 1 } ; show x", failed("empty"))

    def test_the_innermost_guard_takes_it_once(self):
        self.assert_log("", "set x 1 ; guard { guard { show y ; show x } ; show x } ; show x",
                        failed("unset"), shown(1), shown(1))
        self.assert_log("", "set x 1 ; copy c ; copy d ; guard { within c { within d { show y ; show x } ; show x } } ; show x",
                        failed("unset"), shown(1))
        self.assert_log("", "copy c ; set x 1 ; within c { guard { show x } ; guard { show y } ; set x 2 ; show x }",
                        failed("unset"), failed("unset"), shown(2))

    def test_a_guard_ends_like_any_step_where_nothing_fails(self):
        self.assert_log("", "set x 1 ; guard { show x } ; show x", shown(1), shown(1))

    def test_events_of_a_step_that_fails_stay(self):
        self.assert_log("piece a { show x ; set x 2 ; show x ; fail }",
                        "set x 1 ; make p a ; guard { step p } ; show x", shown(1), shown(2), failed("own"), shown(2))
        self.assert_log("piece a { guard { with x 1 { yield } } { show x ; fail } }",
                        "make p a ; copy c ; within c { set x 6 } ; step p ; guard { within c { close p } } ; close p",
                        YIELDED, shown(6), failed("own"), CLOSED)

    def test_a_failure_within_a_guard_of_the_piece_is_no_event(self):
        self.assert_log("piece a { guard { show y } { show x } }", "set x 1 ; make p a ; step p", shown(1), ENDED)

    def test_pieces_that_still_stand_are_not_closed(self):
        self.assert_log("piece a { guard { with x 1 { yield } } { show x } }", "make p a ; step p", YIELDED)

    def test_what_is_behind_a_failure_is_not_done(self):
        self.assert_log("piece a { yield }", "make p a ; guard { step q ; step p } ; step p", failed("empty"), YIELDED)


class TestPlayWith(PlayCase):

    def setUp(self):
        self.book = read_book("vars x; piece a { set x 1 }; piece b { set x 2 }; piece c c context {}; piece d c context"
                              "{ fail }; piece e c context t token {}; piece f t token c context {}")

    def log(self, program, one, other):
        return play_with(self.book, read_program(self.book, program), one, other)

    def test_each_make_of_the_one_makes_the_other(self):
        program = "make p a ; step p ; show x ; guard { make p a } ; step p ; show x ; make q b ; step q ; show x"
        two = (ENDED, shown(2))
        self.assertEqual(self.log(program, "a", "b"), two * 3)
        self.assertEqual(self.log(program, "a", "a"), (ENDED, shown(1)) * 2 + two)
        self.assertEqual(self.log(program, "b", "a"), (ENDED, shown(1)) * 3)
        self.assertEqual(self.log("copy c ; make p c c", "c", "d"), ())
        self.assertEqual(self.log(program, "c", "d"), (ENDED, shown(1)) * 2 + two)

    def test_makes_in_blocks_and_with_args(self):
        self.assertEqual(self.log("copy c ; within c { guard { make p c c } } ; step p", "c", "d"), (failed("own"),))
        self.assertEqual(self.log("make p d c ; step p", "d", "c"), (ENDED,))

    def test_the_program_is_as_it_was(self):
        program = read_program(self.book, "make p a ; step p ; show x")
        play_with(self.book, program, "a", "b")
        self.assertEqual(program_text(self.book, program), "make p a ; step p ; show x")
        self.assertEqual(play(self.book, program), (ENDED, shown(1)))

    def test_errors_in_their_order(self):
        bad = (("x",), (("p", (), (("nothing",),)),))
        for program, one, other in ((None, None, None), ((), "a", "a"), ((), "p", "p")):
            with self.assertRaises(BadBook) as caught:
                play_with(bad, program, one, other)
            self.assertEqual(caught.exception.place, (0, (0,)))
            with self.assertRaises(BadBook):
                play(bad, program)
        for one, other in ((None, None), ("a", "z"), ("c", "e"), ("a", "b")):
            with self.assertRaises(BadProgram) as caught:
                play_with(self.book, (("show", "x"), ("show", "z")), one, other)
            self.assertEqual(caught.exception.place, (1,))

    def test_bad_program_of_anything(self):
        for thing in odd_values() + [[], [("show", "x")], "show x"]:
            for ask in (lambda: play(self.book, thing), lambda: play_with(self.book, thing, "a", "b")):
                with self.assertRaises(BadProgram) as caught:
                    ask()
                self.assertEqual(caught.exception.place, ())

    def test_bad_question_of_names(self):
        for thing in odd_values() + odd_tuples() + ["x", "p", "A", 0]:
            for one, other in ((thing, "a"), ("a", thing), (thing, thing), (thing, Hostile())):
                with self.assertRaises(BadQuestion):
                    play_with(self.book, (), one, other)

    def test_bad_question_of_params(self):
        for one, other in (("a", "c"), ("c", "a"), ("c", "e"), ("e", "f"), ("f", "e")):
            with self.assertRaises(BadQuestion):
                play_with(self.book, (), one, other)
        self.assertEqual(play_with(self.book, (), "c", "d"), ())

    def test_by_name(self):
        program = (("set", "x", 1), ("show", "x"))
        self.assertEqual(play(book=self.book, program=program), (shown(1),))
        self.assertEqual(play_with(book=self.book, program=program, one="a", other="b"), (shown(1),))


class TestBounds(PlayCase):

    def test_three_variables_and_sixteen_statements(self):
        rows = " ; ".join(["set x 1 ; set y x ; set z y ; show z"] * 4)
        book = read_book("vars x y z; piece a { " + rows + " } ; piece b { show z }")
        program = read_program(book, "make p a ; step p")
        self.assertEqual(play(book, program), (shown(1, "z"),) * 4 + (ENDED,))
        self.assertEqual(play_with(book, program, "a", "b"), (failed("unset"),))

    def test_a_long_program(self):
        book = read_book("vars x; piece a { loop { yield ; show x } }")
        program = read_program(book, ";".join(["make p a;step p;set x 1;step p"] * 9000))
        self.assertEqual(play(book, program), (YIELDED, shown(1), YIELDED) * 9000)

    def test_the_log_is_a_tuple_of_plain_tuples(self):
        book = read_book("vars x; piece a { show x }")
        log = play(book, read_program(book, "set x 5 ; make p a ; step p ; step p"))
        self.assertEqual([type(thing) for thing in (log, *log)], [tuple] * 4)
        self.assertEqual([type(part) for part in log[0]], [str, str, int])


class TestDrawn(unittest.TestCase):

    def test_drawn_programs_are_played_as_the_own_player_does(self):
        words = {}
        for seed in range(400):
            drawer = Drawer(seed)
            piece = drawer.piece("p")
            book = (drawer.variables, (piece, drawer.near(piece, "q")))
            for _ in range(4):
                program = drawer.program(book, "p", 16)
                log = play(book, program)
                self.assertEqual(log, log_of(book, program), (book_text(book), program_text(book, program)))
                for turn in turns_of(book, program):
                    words[turn.word, turn.end] = True
                makes = repr(program).replace("'p', (", "'q', (")
                self.assertEqual(play_with(book, program, "p", "q"), log_of(book, eval(makes)))
        for end in ("yielded", "ended", "over", "own", "unset", "empty", "used", "elsewhere", "entered"):
            self.assertIn(("step", end), words)
        for end in ("closed", "ended", "elsewhere"):
            self.assertIn(("close", end), words)


if __name__ == "__main__":
    unittest.main()

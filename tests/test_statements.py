"""What each statement of a piece does, and each way in which it can fail, [4]; pieces that do not stand still."""

import unittest

from samples import piece_room
from stepwhere import machine
from stepwhere.contexts import Context, Token
from stepwhere.errors import Fails


class StatementCase(unittest.TestCase):

    def end_of(self, made):
        """How a step ends: its word, or that of its failure."""
        try:
            return made.step()
        except Fails as failure:
            return failure.word

    def play(self, rows, params="", args=(), **values):
        """The shown values, how the one step of a piece of these rows ends, and the pairs of the context behind it."""
        room = piece_room(rows, params)
        for variable, value in values.items():
            room.put(variable, value)
        made = room.make("p", *args)
        end = self.end_of(made)
        events = room.log()
        self.assertIs(made.is_over, end != "yielded")
        if end in ("yielded", "ended"):
            self.assertEqual(events.pop(), (end,))
        self.assertEqual([event[0] for event in events], ["shown"] * len(events))
        return [event[1:] for event in events], end, room.now.pairs()

    def assert_plays(self, rows, shown, end, pairs=None, **more):
        told = self.play(rows, **more)
        self.assertEqual(told[:2], (shown, end), rows)
        if pairs is not None:
            self.assertEqual(told[2], pairs, rows)


class TestSimple(StatementCase):

    def test_phases(self):
        self.assertEqual((machine.FRESH, machine.STANDS, machine.OVER), ("fresh", "stands", "over"))

    def test_no_statements(self):
        self.assert_plays("", [], "ended", ())

    def test_set(self):
        self.assert_plays("set x 0; set y 99", [], "ended", (("x", 0), ("y", 99)))
        self.assert_plays("set x y", [], "ended", (("x", -7), ("y", -7)), y=-7)
        self.assert_plays("set x x", [], "ended", (("x", 3),), x=3)
        self.assert_plays("set x y", [], "unset", (("x", 3),), x=3)
        self.assert_plays("set x x", [], "unset", ())

    def test_hold(self):
        self.assert_plays("hold t x 5; show x; reset t; show x", [("x", 5), ("x", 1)], "ended", (("x", 1),), x=1)
        self.assert_plays("hold t x y; show x; reset t; show x", [("x", 4)], "unset", (("y", 4),), y=4)
        self.assert_plays("hold t x x; set x 9; reset t; show x", [("x", 4)], "ended", x=4)

    def test_hold_of_what_is_unset_does_nothing(self):
        self.assert_plays("hold t x y", [], "unset", (("x", 3),), x=3)
        self.assert_plays("guard { hold t x y } { show x; reset t }", [("x", 3)], "empty", (("x", 3),), x=3)
        kept = "hold t x 5; guard { hold t x y } { }; reset t; show x"
        self.assert_plays(kept, [("x", 3)], "ended", x=3)

    def test_reset(self):
        self.assert_plays("reset t", [], "empty")
        self.assert_plays("hold t x 1; reset t; set x 8; reset t", [], "used", (("x", 8),))
        self.assert_plays("hold t x 1; copy c; within c { reset t }", [], "elsewhere", (("x", 1),))
        self.assert_plays("copy c; within c { hold t x 1 }; reset t", [], "elsewhere", ())
        self.assert_plays("copy c; within c { hold t x 1; reset t }; reset t", [], "used", ())

    def test_resets_in_order_and_out_of_order(self):
        three = "hold a x 1; hold b x 2; hold c x 3; "
        self.assert_plays(three + "reset c; show x; reset b; show x; reset a; show x", [("x", 2), ("x", 1)], "unset")
        self.assert_plays(three + "reset b; show x; reset c; show x; reset b", [("x", 1), ("x", 2)], "used")
        self.assert_plays(three + "reset b; guard { reset b } { }; show x", [("x", 1)], "ended")
        self.assert_plays("hold a x 1; hold a x 2; reset a; show x", [("x", 1)], "ended")

    def test_drop(self):
        self.assert_plays("drop x; drop y", [], "ended", (), x=1)
        self.assert_plays("drop x; show x", [], "unset", (("y", 2),), x=1, y=2)
        self.assert_plays("hold t x 5; drop x; reset t", [], "ended", (("x", 1),), x=1)

    def test_show(self):
        self.assert_plays("show x; show y; show x", [("x", 1), ("y", -2), ("x", 1)], "ended", x=1, y=-2)
        self.assert_plays("show x; show y; show x", [("x", 1)], "unset", x=1)

    def test_copy(self):
        self.assert_plays("copy c; set x 5; within c { show x; set x 6; set y 7 }; show x; show y",
                          [("x", 1), ("x", 5)], "unset", (("x", 5),), x=1)
        self.assert_plays("copy c; copy d; within c { set x 6 }; within d { show x }; within c { show x }",
                          [("x", 1), ("x", 6)], "ended", (("x", 1),), x=1)
        self.assert_plays("copy c; within c { drop x }; within c { show x }", [], "unset", (("x", 1),), x=1)

    def test_fail(self):
        self.assert_plays("show x; fail; show x", [("x", 1)], "own", x=1)

    def test_yield(self):
        self.assert_plays("show x; yield; show x", [("x", 1)], "yielded", x=1)


class TestBlocks(StatementCase):

    def test_within(self):
        self.assert_plays("within c { fail }", [], "empty")
        self.assert_plays("copy c; within c { }", [], "ended")
        self.assert_plays("copy c; within c { set x 2; fail }; show x", [], "own", (("x", 1),), x=1)
        self.assert_plays("copy c; guard { within c { set x 2; fail } } { show x }; within c { show x }",
                          [("x", 1), ("x", 2)], "ended", x=1)

    def test_within_of_what_is_in_use(self):
        self.assert_plays("copy c; within c { set x 2; within c { set x 3 } }; show x", [], "entered", (("x", 1),), x=1)
        inner = "copy c; within c { set x 2; guard { within c { set x 3 } } { show x } }; show x"
        self.assert_plays(inner, [("x", 2), ("x", 1)], "ended", x=1)
        self.assert_plays("copy c; within c { copy d; within d { within c { } } }", [], "entered")
        self.assert_plays("copy c; within c { fail }", [], "own")
        again = "copy c; guard { within c { fail } } { }; within c { set x 4; show x }; show x"
        self.assert_plays(again, [("x", 4), ("x", 1)], "ended", x=1)

    def test_within_of_a_slot_that_gets_another_context_inside(self):
        rows = "copy c; within c { set x 2; copy c; set x 3; within c { show x } }; within c { show x }; show x"
        self.assert_plays(rows, [("x", 2), ("x", 2), ("x", 1)], "ended", x=1)

    def test_within_of_the_current_context_that_was_handed_in(self):
        room = piece_room("within c { set x 1 }", "c context")
        made = room.make("p", room.now)
        self.assertEqual(self.end_of(made), "entered")
        context = Context()
        made = room.make("p", context)
        self.assertEqual(room.run(context, self.end_of, made), "entered")
        made = room.make("p", context)
        self.assertEqual(self.end_of(made), "ended")
        self.assertEqual((context.pairs(), context.is_busy, room.now.pairs()), ((("x", 1),), False, ()))

    def test_within_and_its_failures_leave_no_context_in_use(self):
        for rows in ("fail", "show y", "reset t", "with x 1 { fail }", "guard { fail } { fail }"):
            room = piece_room("within c { " + rows + " }", "c context")
            context, elder = Context(), room.now
            with self.assertRaises(Fails):
                room.make("p", context).step()
            self.assertIs(context.is_busy, False)
            self.assertIs(room.now, elder)

    def test_statements_with_blocks_within_a_within(self):
        self.assert_plays("copy c; within c { with x 2 { show x }; show x; if x 1 { show x } { fail } }",
                          [("x", 2), ("x", 1), ("x", 1)], "ended", x=1)
        self.assert_plays("copy c; within c { guard { with x 2 { fail } } { show x } }", [("x", 1)], "ended", x=1)

    def test_if(self):
        rows = "if x 5 { show x } { set x 7 }; if x 7 { show x } { }"
        self.assert_plays(rows, [("x", 5)], "ended", x=5)
        self.assert_plays(rows, [("x", 7)], "ended", x=6)
        self.assert_plays(rows, [("x", 7)], "ended")
        self.assert_plays("if x 0 { fail } { }", [], "own", x=0)
        self.assert_plays("if x 0 { fail } { }", [], "ended")
        self.assert_plays("if x 1 { } { fail }; show x", [("x", 1)], "ended", x=1)
        self.assert_plays("if x 1 { set x 2 } { fail }; show x", [("x", 2)], "ended", x=1)

    def test_with(self):
        self.assert_plays("with x 5 { show x; set x 6 }; show x", [("x", 5), ("x", 1)], "ended", x=1)
        self.assert_plays("with x y { show x; drop x }; show x", [("x", 8)], "unset", (("y", 8),), y=8)
        self.assert_plays("with x x { show x; set x 2 }; show x", [("x", 1), ("x", 1)], "ended", x=1)
        self.assert_plays("with x 5 { }", [], "ended", ())

    def test_with_of_what_is_unset_does_nothing(self):
        self.assert_plays("with x y { show x }; show x", [], "unset", (("x", 1),), x=1)
        self.assert_plays("guard { with x y { fail } } { show x }", [("x", 1)], "ended", (("x", 1),), x=1)

    def test_with_resets_behind_a_failure(self):
        self.assert_plays("with x 5 { fail }; show x", [], "own", (("x", 1),), x=1)
        self.assert_plays("with x 5 { with y 6 { show z } }", [], "unset", (("x", 1),), x=1)
        self.assert_plays("guard { with x 5 { show x; fail } } { show x }", [("x", 5), ("x", 1)], "ended", x=1)

    def test_withs_of_one_variable_within_one_another(self):
        self.assert_plays("with x 2 { with x 3 { show x }; show x; set x 9 }; show x",
                          [("x", 3), ("x", 2), ("x", 1)], "ended", x=1)

    def test_a_token_that_is_reset_within_a_with(self):
        self.assert_plays("hold t x 2; with x 3 { reset t; show x }; show x", [("x", 1), ("x", 2)], "ended", x=1)

    def test_guard(self):
        self.assert_plays("guard { show x } { fail }; show x", [("x", 1)] * 2, "ended", x=1)
        self.assert_plays("guard { fail; show x } { show y }; show y", [("y", 2)] * 2, "ended", x=1, y=2)
        self.assert_plays("guard { fail } { }", [], "ended")
        self.assert_plays("guard { } { fail }", [], "ended")
        self.assert_plays("guard { fail } { show y }; show x", [], "unset", x=1)
        for rows in ("show y", "reset t", "set x y", "within c { }", "fail", "hold t x y", "with x y { }"):
            self.assert_plays("guard { " + rows + " } { show x }; show x", [("x", 1)] * 2, "ended", x=1)

    def test_guards_within_guards(self):
        self.assert_plays("guard { guard { fail } { show y } } { show x }", [("x", 1)], "ended", x=1)
        self.assert_plays("guard { guard { fail } { show x }; show y } { show x }", [("x", 1)] * 2, "ended", x=1)
        self.assert_plays("guard { fail } { guard { fail } { show x } }", [("x", 1)], "ended", x=1)
        self.assert_plays("guard { fail } { guard { fail } { show y }; show x }", [], "unset", x=1)

    def test_a_failure_goes_through_each_statement_to_the_next_guard(self):
        for around in ("if x 1 { fail } { }", "if x 2 { } { fail }", "with y 5 { fail }", "loop { fail; yield }",
                       "copy c; within c { fail }", "guard { fail } { fail }"):
            self.assert_plays("guard { " + around + " } { show x }", [("x", 1)], "ended", x=1)

    def test_leave(self):
        self.assert_plays("loop { leave; yield }; show x", [("x", 1)], "ended", x=1)
        self.assert_plays("loop { show x; leave; show x; yield }", [("x", 1)], "ended", x=1)
        self.assert_plays("loop { loop { leave; yield }; show x; yield }", [("x", 1)], "yielded", x=1)
        for rows in ("if x 1 { leave } { }", "if x 2 { } { leave }", "guard { leave } { }", "guard { fail } { leave }",
                     "with y 5 { leave }", "with y 5 { guard { leave } { fail } }"):
            self.assert_plays("loop { " + rows + "; fail; yield }; show x", [("x", 1)], "ended", (("x", 1),), x=1)

    def test_leave_ends_a_with_from_within_outward(self):
        rows = "loop { with x 2 { with x 3 { leave } }; yield }; show x"
        self.assert_plays(rows, [("x", 1)], "ended", x=1)

    def test_a_loop_goes_on_to_its_yield(self):
        room = piece_room("loop { show x; yield; set x 5 }")
        room.put("x", 1)
        made = room.make("p")
        self.assertEqual([self.end_of(made) for _ in range(4)], ["yielded"] * 4)
        shown = ("shown", "x", 1), ("yielded",), ("shown", "x", 5), ("yielded",)
        self.assertEqual(room.log(), [*shown, *shown[2:], *shown[2:]])

    def test_loops_within_loops(self):
        rows = "set x 0; loop { loop { if x 0 { set x 1 } { leave }; yield }; show x; set x 0; yield }"
        room = piece_room(rows)
        made = room.make("p")
        self.assertEqual([self.end_of(made) for _ in range(4)], ["yielded"] * 4)
        step = ("yielded",)
        self.assertEqual(room.log(), [step, ("shown", "x", 1), step, step, ("shown", "x", 1), step])


class TestSlots(StatementCase):

    def test_a_param_that_was_handed_nothing_is_empty(self):
        self.assert_plays("reset t", [], "empty", params="t token", args=(None,))
        self.assert_plays("within c { }", [], "empty", params="c context", args=(None,))
        self.assert_plays("copy c; within c { show x }", [("x", 1)], "ended", params="c context", args=(None,), x=1)
        self.assert_plays("hold t x 2; reset t; show x", [("x", 1)], "ended", params="t token", args=(None,), x=1)

    def test_a_token_that_was_handed_in(self):
        room = piece_room("reset t", "t token")
        room.put("x", 1)
        token = room.hold("x", 2)
        self.assertEqual(self.end_of(room.make("p", token)), "ended")
        self.assertEqual((room.read("x"), token.is_used), (1, True))
        self.assertEqual(self.end_of(room.make("p", token)), "used")
        other = room.hold("x", 3)
        room.reset(other)
        self.assertEqual(self.end_of(room.make("p", other)), "used")
        third = room.hold("x", 4)
        self.assertEqual(room.run(room.copy(), self.end_of, room.make("p", third)), "elsewhere")
        self.assertIs(third.is_used, False)
        self.assertEqual(self.end_of(room.make("p", Token(Context(), "x"))), "elsewhere")

    def test_one_token_in_two_params(self):
        room = piece_room("reset s; reset t", "s token t token")
        token = room.hold("x", 2)
        self.assertEqual(self.end_of(room.make("p", token, token)), "used")

    def test_one_context_in_two_params(self):
        room = piece_room("within c { set x 5; within d { } }", "c context d context")
        context = Context()
        self.assertEqual(self.end_of(room.make("p", context, context)), "entered")
        self.assertEqual(self.end_of(room.make("p", context, Context())), "ended")
        self.assertEqual(context.pairs(), (("x", 5),))

    def test_what_a_piece_puts_into_a_slot_changes_no_other_slot(self):
        room = piece_room("copy c; set x 9; within c { set x 5 }; within d { show x }", "c context d context")
        context = Context((("x", 3),))
        self.assertEqual(self.end_of(room.make("p", context, context)), "ended")
        self.assertEqual(context.pairs(), (("x", 3),))
        self.assertEqual(room.log(), [("shown", "x", 3), ("ended",)])

    def test_each_instance_has_slots_of_its_own(self):
        room = piece_room("if x 1 { copy c; hold t x 5; yield } { }; within c { }; reset t")
        room.put("x", 1)
        one = room.make("p")
        self.assertEqual(self.end_of(one), "yielded")
        other = room.make("p")
        self.assertEqual(self.end_of(other), "empty")
        self.assertEqual((room.read("x"), self.end_of(one), room.read("x")), (5, "ended", 1))

    def test_one_name_for_a_variable_and_a_slot(self):
        self.assert_plays("copy x; set x 5; within x { show x }; show x", [("x", 1), ("x", 5)], "ended", x=1)

    def test_slots_that_a_within_fills_are_filled_behind_it(self):
        rows = "copy c; within c { copy d; hold t x 5 }; within d { show x }; within c { show x; reset t; show x }"
        self.assert_plays(rows, [("x", 1), ("x", 5), ("x", 1)], "ended", x=1)


if __name__ == "__main__":
    unittest.main()

"""Steps and closings of pieces that stand at a yield, in one context and in several, [7] and [8]."""

import unittest

from samples import piece_room
from stepwhere.booktexts import read_book
from stepwhere.contexts import Context
from stepwhere.errors import Fails
from stepwhere.rooms import Room


def end_of(deed):
    """What a step or a closing tells, or the word of its failure."""
    try:
        return deed()
    except Fails as failure:
        return failure.word


class StepCase(unittest.TestCase):

    def start(self, rows, *args, params="", **values):
        """A room, a piece of these rows that stands behind its first step, and another context for it."""
        self.room = piece_room(rows, params)
        for variable, value in values.items():
            self.room.put(variable, value)
        self.made = self.room.make("p", *args)
        self.assertEqual(self.made.step(), "yielded")
        self.assertIs(self.made.is_over, False)
        self.other = Context((("x", 50), ("y", 60)))
        self.seen = len(self.room.log())

    def told(self):
        """The events since this was last asked: of those shown the values alone."""
        events = self.room.log()[self.seen:]
        self.seen += len(events)
        return [event[2] if event[0] == "shown" else event[0] for event in events]

    def step(self):
        return end_of(self.made.step)

    def close(self):
        return end_of(self.made.close)

    def step_there(self):
        return self.room.run(self.other, end_of, self.made.step)

    def close_there(self):
        return self.room.run(self.other, end_of, self.made.close)

    def assert_ends(self, rows, deed, end, told, x=None, is_over=True, **values):
        """A piece that was stepped once: how the next turn ends, what comes into the log, and what x is behind it."""
        self.start(rows, x=1, **values)
        self.assertEqual(getattr(self, deed)(), end, (rows, deed))
        self.assertEqual(self.told(), told, (rows, deed))
        self.assertIs(self.made.is_over, is_over, (rows, deed))
        if x is not None:
            self.assertEqual(self.room.read("x"), x, (rows, deed))
        self.assertEqual(self.room.now.is_busy, True)
        self.assertEqual(self.other.is_busy, False)


class TestExamples(unittest.TestCase):

    def test_of_point_7(self):
        room = Room(read_book("vars x; piece p { with x 1 { yield } }"))
        made, other = room.make("p"), Context()
        self.assertEqual(made.step(), "yielded")
        self.assertEqual(room.run(other, end_of, made.step), "elsewhere")
        self.assertEqual((room.read("x"), other.pairs(), made.is_over), (1, (), True))
        self.assertEqual(room.log(), [("yielded",)])
        self.assertEqual(end_of(made.step), "over")

    def test_of_point_8(self):
        room = Room(read_book("vars x; piece p { guard { with x 1 { yield } } { show x } ; yield }"))
        made, other = room.make("p"), Context((("x", 5),))
        self.assertEqual(made.step(), "yielded")
        self.assertEqual(room.run(other, end_of, made.close), "ignored")
        self.assertEqual(room.log(), [("yielded",), ("shown", "x", 5)])
        self.assertIs(made.is_over, False)
        self.assertEqual((room.read("x"), made.step(), made.is_over), (1, "ended", True))

    def test_of_point_28(self):
        book = read_book("vars x; piece a { with x 1 { yield } }; piece b { hold t x 1; yield; reset t };"
                         "piece c { guard { with x 1 { yield } } { fail } }; piece d { with x 1 { yield; yield } }")
        room = Room(book)
        for name, closed, there, again in (("a", None, "elsewhere", "ended"), ("b", 1, "elsewhere", "ended"),
                                           ("c", None, "own", "ended"), ("d", None, "yielded", "yielded")):
            room.drop("x")
            made = room.make(name)
            made.step()
            made.close()
            self.assertEqual(room.now.pairs(), () if closed is None else (("x", closed),))
            made = room.make(name)
            made.step()
            self.assertEqual(room.run(Context(), end_of, made.step), there)
            made = room.make(name)
            self.assertEqual([made.step(), made.step()], ["yielded", again])


class TestFreshAndOver(unittest.TestCase):

    def test_a_step_of_a_piece_that_is_over(self):
        for rows, end in (("", "ended"), ("fail", "own")):
            room = piece_room(rows)
            made = room.make("p")
            self.assertIs(made.is_over, False)
            self.assertEqual(end_of(made.step), end)
            seen = room.log()
            for _ in range(2):
                self.assertIs(made.is_over, True)
                self.assertEqual(end_of(made.step), "over")
            self.assertEqual(room.log(), seen)

    def test_closing_a_fresh_one(self):
        for rows in ("", "set x 5; show x", "fail", "with x 5 { yield }", "guard { yield } { }", "loop { yield }"):
            room = piece_room(rows)
            made = room.make("p")
            for many in (1, 2, 3):
                self.assertEqual(made.close(), "closed")
                self.assertIs(made.is_over, True)
                self.assertEqual(room.log(), [("closed",)] * many)
            self.assertEqual(end_of(made.step), "over")
            self.assertEqual(made.close(), "closed")
            self.assertEqual(room.now.pairs(), ())

    def test_closing_one_that_is_over(self):
        for rows, end, told in (("", "ended", [("ended",)]), ("fail", "own", []), ("with x 1 { fail }", "own", [])):
            room = piece_room(rows)
            made = room.make("p")
            self.assertEqual(end_of(made.step), end)
            self.assertEqual([made.close(), made.close()], ["closed", "closed"])
            self.assertIs(made.is_over, True)
            self.assertEqual(room.log(), told + [("closed",)] * 2)

    def test_one_that_failed_behind_a_yield_is_over(self):
        room = piece_room("with x 5 { yield; fail }; yield")
        made = room.make("p")
        self.assertEqual([end_of(deed) for deed in (made.step, made.step, made.step, made.close)],
                         ["yielded", "own", "over", "closed"])
        self.assertEqual((room.log(), room.now.pairs()), ([("yielded",), ("closed",)], ()))


class TestEachStatementAroundAYield(StepCase):

    def test_nothing_around(self):
        self.assert_ends("yield; show x", "step", "ended", [1, "ended"])
        self.assert_ends("yield; show x", "step_there", "ended", [50, "ended"])
        self.assert_ends("yield; show x", "close", "closed", ["closed"])
        self.assert_ends("yield; show x", "close_there", "closed", ["closed"])

    def test_if(self):
        for rows in ("if x 1 { yield; show x } { fail }; show y", "if x 2 { fail } { yield; show x }; show y"):
            self.assert_ends(rows, "step", "ended", [1, 2, "ended"], y=2)
            self.assert_ends(rows, "step_there", "ended", [50, 60, "ended"], y=2)
            self.assert_ends(rows, "close", "closed", ["closed"], y=2)
            self.assert_ends(rows, "close_there", "closed", ["closed"], y=2)

    def test_with(self):
        rows = "with x 9 { yield; show x }; show x"
        self.assert_ends(rows, "step", "ended", [9, 1, "ended"], x=1)
        self.assert_ends(rows, "step_there", "elsewhere", [50], x=9)
        self.assertEqual(self.other["x"], 50)
        self.assert_ends(rows, "close", "closed", ["closed"], x=1)
        self.assert_ends(rows, "close_there", "elsewhere", [], x=9)
        self.assertEqual(self.other["x"], 50)

    def test_guard_with_the_yield_in_its_first_block(self):
        rows = "guard { yield; show x; show z } { show y }; show x"
        self.assert_ends(rows, "step", "ended", [1, 2, 1, "ended"], y=2)
        self.assert_ends(rows, "step_there", "ended", [50, 60, 50, "ended"], y=2)
        self.assert_ends(rows, "close", "closed", ["closed"], y=2)
        self.assert_ends(rows, "close_there", "closed", ["closed"], y=2)

    def test_guard_with_the_yield_in_its_second_block(self):
        rows = "guard { fail } { yield; show x }; show y"
        self.assert_ends(rows, "step", "ended", [1, 2, "ended"], y=2)
        self.assert_ends(rows, "step_there", "ended", [50, 60, "ended"], y=2)
        self.assert_ends(rows, "close", "closed", ["closed"], y=2)
        self.assert_ends(rows, "close_there", "closed", ["closed"], y=2)
        rows = "guard { fail } { yield; fail }; show y"
        self.assert_ends(rows, "step", "own", [], y=2)
        rows = "guard { fail } { with x 9 { yield } }; show y"
        self.assert_ends(rows, "close_there", "elsewhere", [], y=2)

    def test_loop(self):
        rows = "loop { show x; yield; show y }"
        self.assert_ends(rows, "step", "yielded", [2, 1, "yielded"], is_over=False, y=2)
        self.assert_ends(rows, "step_there", "yielded", [60, 50, "yielded"], is_over=False, y=2)
        self.assert_ends(rows, "close", "closed", ["closed"], y=2)
        self.assert_ends(rows, "close_there", "closed", ["closed"], y=2)
        rows = "loop { yield; leave }; show x"
        self.assert_ends(rows, "step", "ended", [1, "ended"])
        self.assert_ends(rows, "step_there", "ended", [50, "ended"])

    def test_within_runs_in_the_context_that_its_slot_holds_wherever_it_is_stepped(self):
        rows = "copy c; yield; within c { show x; set x 7 }; show x; within c { show x }"
        self.assert_ends(rows, "step", "ended", [1, 1, 7, "ended"], x=1)
        self.assert_ends(rows, "step_there", "ended", [1, 50, 7, "ended"], x=1)

    def test_tokens_in_slots(self):
        rows = "hold t x 9; yield; show x; reset t; show x"
        self.assert_ends(rows, "step", "ended", [9, 1, "ended"], x=1)
        self.assert_ends(rows, "step_there", "elsewhere", [50], x=9)
        self.assert_ends(rows, "close", "closed", ["closed"], x=9)
        self.assert_ends(rows, "close_there", "closed", ["closed"], x=9)

    def test_within_of_the_context_in_which_it_is_stepped(self):
        self.start("yield; within c { show x }", Context(), params="c context")
        self.other = self.room.copy()
        made = self.room.make("p", self.other)
        made.step()
        self.assertEqual(self.room.run(self.other, end_of, made.step), "entered")
        made = self.room.make("p", self.other)
        self.room.run(self.other, made.step)
        self.assertEqual(end_of(made.step), "unset")

    def test_several_yields_each_in_another_context(self):
        self.start("loop { show x; set x 5; yield }", x=1)
        contexts = [Context((("x", number),)) for number in range(10, 16)]
        for context in contexts:
            self.assertEqual(self.room.run(context, self.made.step), "yielded")
        self.assertEqual(self.told(), [told for number in range(10, 16) for told in (number, "yielded")])
        self.assertEqual([context["x"] for context in contexts], [5] * 6)


class TestResetsThatFail(StepCase):

    def test_of_the_end(self):
        self.assert_ends("with x 9 { yield }; show x", "step_there", "elsewhere", [], x=9)
        self.assert_ends("guard { with x 9 { yield } } { show x }; show y", "step_there", "ended", [50, 60, "ended"])

    def test_of_a_failure(self):
        self.assert_ends("with x 9 { yield; fail }", "step", "own", [], x=1)
        self.assert_ends("with x 9 { yield; fail }", "step_there", "elsewhere", [], x=9)
        self.assert_ends("with x 9 { yield; show z }", "step_there", "elsewhere", [], x=9)
        self.assert_ends("guard { with x 9 { yield; fail } } { fail }", "step_there", "own", [], x=9)

    def test_of_a_leave(self):
        rows = "loop { with x 9 { yield; leave }; fail; yield }; show x"
        self.assert_ends(rows, "step", "ended", [1, "ended"], x=1)
        self.assert_ends(rows, "step_there", "elsewhere", [], x=9)
        rows = "guard { loop { with x 9 { yield; leave }; yield } } { show y }; show x"
        self.assert_ends(rows, "step_there", "ended", [60, 50, "ended"], x=9)

    def test_of_a_leave_with_a_guard_within_the_loop(self):
        rows = "loop { guard { with x 9 { yield; leave } } { show y }; show x; yield }; fail"
        self.assert_ends(rows, "step_there", "yielded", [60, 50, "yielded"], x=9, is_over=False)
        self.assertEqual(self.step(), "yielded")
        rows = "loop { with x 9 { guard { yield; leave } { fail } }; yield }; show x"
        self.assert_ends(rows, "step", "ended", [1, "ended"], x=1)
        self.assert_ends(rows, "step_there", "elsewhere", [], x=9)

    def test_a_guard_within_the_with_does_not_take_it(self):
        self.assert_ends("with x 9 { guard { yield } { show x } }; show y", "step_there", "elsewhere", [], x=9)
        self.assert_ends("with x 9 { guard { yield } { show x } }", "close_there", "elsewhere", [], x=9)

    def test_a_with_further_out_is_still_ended(self):
        self.start("with y 3 { yield; guard { with x 9 { yield } } { show x }; show y }", x=1, y=2)
        self.assertEqual(self.step(), "yielded")
        self.told()
        self.assertEqual(self.step_there(), "elsewhere")
        self.assertEqual(self.told(), [50, 60])
        self.assertEqual((self.room.read("x"), self.room.read("y")), (9, 3))

    def test_withs_of_two_contexts(self):
        rows = "with x 8 { yield; with x 9 { yield; show x } }; show x"
        self.start(rows, x=1)
        self.assertEqual(self.step_there(), "yielded")
        self.told()
        self.assertEqual(self.step_there(), "elsewhere")
        self.assertEqual((self.told(), self.other["x"], self.room.read("x")), ([9], 50, 8))
        self.start(rows, x=1)
        self.assertEqual(self.step_there(), "yielded")
        self.told()
        self.assertEqual(self.step(), "elsewhere")
        self.assertEqual((self.told(), self.other["x"], self.room.read("x")), ([8], 9, 1))

    def test_a_token_of_a_with_that_failed_is_not_tried_again(self):
        self.start("loop { guard { with x 9 { yield } } { }; yield }", x=1)
        self.assertEqual([self.step_there(), self.step(), self.step()], ["yielded"] * 3)
        self.assertEqual(self.room.read("x"), 9)


class TestClosings(StepCase):

    def test_from_within_outward(self):
        rows = "with x 7 { with x 8 { guard { loop { yield } } { fail } } }"
        self.assert_ends(rows, "close", "closed", ["closed"], x=1)
        self.assert_ends(rows, "close_there", "elsewhere", [], x=8)
        self.assertEqual(end_of(self.made.step), "over")
        self.assert_ends("with x 7 { if x 7 { with x 8 { if x 8 { yield } { } } } { } }", "close", "closed",
                         ["closed"], x=1)

    def test_a_guard_around_that_takes_the_failure_and_ends(self):
        rows = "guard { with x 9 { yield } } { show x }; show y"
        self.assert_ends(rows, "close", "closed", ["closed"], x=1, y=2)
        self.assert_ends(rows, "close_there", "ended", [50, 60, "ended"], x=9, y=2)
        self.assertEqual((self.step(), self.close(), self.told()), ("over", "closed", ["closed"]))

    def test_a_guard_around_that_takes_the_failure_and_fails(self):
        for behind, word in (("fail", "own"), ("show z", "unset"), ("reset t", "empty")):
            self.assert_ends("guard { with x 9 { yield } } { show x; " + behind + " }", "close_there", word, [50], x=9)
            self.assert_ends("guard { with x 9 { yield } } { show x }; " + behind, "close_there", word, [50], x=9)

    def test_a_guard_around_that_takes_the_failure_and_yields(self):
        rows = "guard { with x 9 { yield } } { show x; yield; show y }; show x"
        self.assert_ends(rows, "close_there", "ignored", [50], x=9, is_over=False, y=2)
        self.assertEqual((self.step(), self.told(), self.made.is_over), ("ended", [2, 9, "ended"], True))
        self.assert_ends(rows, "close_there", "ignored", [50], x=9, is_over=False, y=2)
        self.assertEqual((self.close(), self.told(), self.made.is_over), ("closed", ["closed"], True))

    def test_ignored_again_and_again(self):
        rows = "loop { guard { with x 9 { yield } } { show x }; yield }"
        self.assert_ends(rows, "close_there", "ignored", [50], is_over=False)
        self.assertEqual((self.step(), self.told()), ("yielded", ["yielded"]))
        self.assertEqual((self.close_there(), self.told(), self.made.is_over), ("ignored", [50], False))
        self.assertEqual((self.close_there(), self.told(), self.made.is_over), ("closed", ["closed"], True))

    def test_a_guard_further_in_or_with_the_yield_in_its_second_block_takes_nothing(self):
        self.assert_ends("guard { fail } { with x 9 { yield } }; yield", "close_there", "elsewhere", [], x=9)
        self.assert_ends("with x 9 { guard { yield } { yield } }", "close_there", "elsewhere", [], x=9)
        rows = "guard { guard { fail } { with x 9 { yield } } } { show x }"
        self.assert_ends(rows, "close_there", "ended", [50, "ended"], x=9)

    def test_a_failure_goes_through_what_is_not_ended_yet(self):
        rows = "guard { with y 3 { loop { with x 9 { yield }; yield } } } { show y }; show x"
        self.assert_ends(rows, "close_there", "ended", [60, 50, "ended"], x=9, y=2)
        self.assertEqual((self.room.read("y"), self.other["y"]), (3, 60))

    def test_of_two_resets_one_fails(self):
        rows = "guard { with x 7 { yield; with y 8 { yield } } } { show x; show y }"
        self.start(rows, x=1, y=2)
        self.assertEqual(self.step_there(), "yielded")
        self.told()
        self.assertEqual((self.close_there(), self.told()), ("ended", [50, 60, "ended"]))
        self.start(rows, x=1, y=2)
        self.assertEqual(self.step_there(), "yielded")
        self.told()
        self.assertEqual((self.close(), self.told()), ("ended", [1, 2, "ended"]))
        self.assertEqual(self.other["y"], 8)

    def test_a_loop_around_the_guard_goes_on(self):
        rows = "loop { guard { with x 9 { yield } } { show x; leave }; yield }; show y"
        self.assert_ends(rows, "close_there", "ended", [50, 60, "ended"], x=9)
        rows = "loop { guard { with x 9 { yield } } { show x }; yield }"
        self.assert_ends(rows, "close_there", "ignored", [50], x=9, is_over=False)

    def test_slots_that_are_used_behind_a_failing_reset(self):
        rows = "hold t y 3; guard { with x 9 { yield } } { reset t }; show y"
        self.assert_ends(rows, "close_there", "elsewhere", [], y=2)
        self.start("copy c; guard { with x 9 { yield } } { within c { show x } }; show x", x=1)
        self.assertEqual((self.close_there(), self.told()), ("ended", [1, 50, "ended"]))


class TestTwoPieces(unittest.TestCase):

    def test_side_by_side(self):
        book = read_book("vars x; piece a { with x 1 { yield; show x; yield } }; piece b { with x 2 { yield; show x } }")
        room = Room(book)
        room.put("x", 0)
        one, other = room.make("a"), room.make("b")
        self.assertEqual([one.step(), other.step(), one.step(), other.step(), room.read("x"), one.step()],
                         ["yielded", "yielded", "yielded", "ended", 1, "ended"])
        self.assertEqual(room.read("x"), 0)
        self.assertEqual(room.log(), [("yielded",), ("yielded",), ("shown", "x", 2), ("yielded",), ("shown", "x", 2),
                                      ("ended",), ("ended",)])
        self.assertEqual((one.is_over, other.is_over), (True, True))

    def test_two_of_one_piece_out_of_order(self):
        room = piece_room("with x 5 { yield }")
        room.put("x", 1)
        one, other = room.make("p"), room.make("p")
        one.step()
        room.put("x", 2)
        other.step()
        self.assertEqual((one.close(), room.read("x"), other.close(), room.read("x")), ("closed", 1, "closed", 2))
        self.assertEqual((one.is_over, other.is_over), (True, True))

    def test_one_token_for_two_pieces(self):
        room = piece_room("yield; reset t", "t token")
        token = room.hold("x", 1)
        one, other = room.make("p", token), room.make("p", token)
        one.step(), other.step()
        self.assertEqual([end_of(one.step), end_of(other.step)], ["ended", "used"])

    def test_one_context_for_two_pieces(self):
        room = piece_room("loop { within c { if x 0 { set x 1 } { show x; set x 0 } }; yield }", "c context")
        context = Context((("x", 0),))
        one, other = room.make("p", context), room.make("p", context)
        for made in (one, other, other, one):
            made.step()
        self.assertEqual([event for event in room.log() if event[0] == "shown"], [("shown", "x", 1)] * 2)

    def test_in_two_rooms(self):
        rows = "loop { within c { show x }; yield }"
        one, other = piece_room(rows, "c context"), piece_room(rows, "c context")
        context = Context((("x", 4),))
        first, second = one.make("p", context), other.make("p", context)
        self.assertEqual([first.step(), second.step()], ["yielded", "yielded"])
        self.assertEqual(one.run(context, end_of, second.step), "entered")
        self.assertEqual((len(one.log()), len(other.log())), (2, 2))
        third = one.make("p", other.now)
        self.assertEqual(end_of(third.step), "entered")


class TestDeeds(unittest.TestCase):

    def test_a_deed_that_steps_within_a_context(self):
        room = piece_room("show x; yield; show x; set x 8; yield; show x")
        room.put("x", 1)
        made, contexts = room.make("p"), [Context((("x", 2),)), Context((("x", 3),))]

        def deed(left):
            made.step()
            if left:
                room.run(left[0], deed, left[1:])
            return room.read("x")
        self.assertEqual(deed(contexts), 1)
        self.assertEqual(room.log(), [("shown", "x", 1), ("yielded",), ("shown", "x", 2), ("yielded",),
                                      ("shown", "x", 3), ("ended",)])
        self.assertEqual([context["x"] for context in contexts], [8, 3])

    def test_within_blocks_and_runs(self):
        room = piece_room("with x 5 { yield; show x }; yield")
        context, made = Context(), room.make("p")
        with room.within(context):
            self.assertEqual(made.step(), "yielded")
        self.assertEqual(context["x"], 5)
        self.assertEqual(room.run(context, made.step), "yielded")
        self.assertEqual((context.pairs(), made.close()), ((), "closed"))

    def test_a_failure_of_a_step_goes_on_through_run(self):
        room = piece_room("yield; fail")
        context, made, elder = Context(), room.make("p"), room.now
        room.run(context, made.step)
        with self.assertRaises(Fails) as caught:
            room.run(context, made.step)
        self.assertEqual(caught.exception.word, "own")
        self.assertIs(room.now, elder)
        self.assertIs(context.is_busy, False)

    def test_the_events_ahead_of_a_failure_stay(self):
        room = piece_room("show x; within c { show x; show y }", "c context")
        room.put("x", 1)
        made = room.make("p", Context((("x", 2),)))
        self.assertEqual(end_of(made.step), "unset")
        self.assertEqual(room.log(), [("shown", "x", 1), ("shown", "x", 2)])
        self.assertEqual(end_of(made.step), "over")
        self.assertEqual(len(room.log()), 2)

    def test_a_piece_that_nobody_holds_is_not_closed(self):
        room = piece_room("with x 5 { yield }")
        room.make("p").step()
        made = room.make("p")
        made.step()
        del made
        self.assertEqual((room.read("x"), room.log()), (5, [("yielded",)] * 2))

    def test_sixty_runs_deep(self):
        room = piece_room("guard { with x 5 { if x 5 { within c { show y } } { } } } { }; show x", "c context")
        inner = Context((("y", 7),))

        def deed(left):
            if left:
                return room.run(Context((("x", left),)), deed, left - 1)
            return room.make("p", inner).step()
        self.assertEqual(deed(60), "ended")
        self.assertEqual(room.log(), [("shown", "y", 7), ("shown", "x", 1), ("ended",)])


if __name__ == "__main__":
    unittest.main()

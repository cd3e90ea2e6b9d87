"""Rooms: the current context, tokens, runs within contexts, the log, and what make refuses; [2] and [3]."""

import unittest

from samples import Hostile, VARS, book_of, odd_tuples, odd_values
from stepwhere.booktexts import read_book
from stepwhere.contexts import Context, Token
from stepwhere.errors import BadBook, BadQuestion, Fails
from stepwhere.rooms import Instance, Room, under

BOOK = (VARS, ())


class Wrong(Exception):
    """What a deed of these tests raises."""


class RoomCase(unittest.TestCase):

    def setUp(self):
        self.room = Room(BOOK)

    def assert_fails(self, word, deed, *args, **more):
        with self.assertRaises(Fails) as caught:
            deed(*args, **more)
        self.assertEqual(caught.exception.word, word)

    def assert_now(self, context, elder=None):
        """That context is the current one and in use, and elder is not in use."""
        self.assertIs(self.room.now, context)
        self.assertIs(context.is_busy, True)
        if elder is not None:
            self.assertIs(elder.is_busy, False)


class TestNew(RoomCase):

    def test_its_first_context_is_new_empty_and_in_use(self):
        self.assertIsInstance(self.room.now, Context)
        self.assertEqual(self.room.now, Context())
        self.assert_now(self.room.now)
        self.assertEqual(self.room.log(), [])
        other = Room(BOOK)
        self.assertIsNot(other.now, self.room.now)
        other.put("x", 1)
        self.assert_fails("unset", self.room.read, "x")

    def test_bad_book_of_anything(self):
        for thing in odd_values() + odd_tuples():
            with self.assertRaises(BadBook):
                Room(thing)
        with self.assertRaises(BadBook) as caught:
            Room(book_of(("fail",), ("yields",)))
        self.assertEqual(caught.exception.place, (0, (1,)))

    def test_its_methods_stand_in_the_class_itself(self):
        for name in "put drop read show hold reset copy run within make log".split():
            self.assertIn(name, vars(Room))
        for name in ("step", "close"):
            self.assertIn(name, vars(Instance))
        for thing in (Room, Instance, under):
            self.assertEqual(thing.__module__, "stepwhere.rooms")
        self.assertIn("now", vars(self.room))


class TestVariables(RoomCase):

    def test_put_read_drop(self):
        for value in (0, 1, -1, 99, 10 ** 30, -(10 ** 3999)):
            self.assertIsNone(self.room.put("x", value))
            self.assertEqual(self.room.read("x"), value)
        self.assert_fails("unset", self.room.read, "y")
        self.assertIsNone(self.room.drop("x"))
        self.assert_fails("unset", self.room.read, "x")
        self.assertIsNone(self.room.drop("x"))
        self.assertEqual(self.room.log(), [])

    def test_show(self):
        self.room.put("x", 7)
        self.assertIsNone(self.room.show("x"))
        self.assert_fails("unset", self.room.show, "y")
        self.room.put("x", -8)
        self.room.show("x")
        self.assertEqual(self.room.log(), [("shown", "x", 7), ("shown", "x", -8)])

    def test_the_log_is_the_callers_own(self):
        self.room.put("x", 1)
        self.room.show("x")
        told = self.room.log()
        self.assertIs(type(told), list)
        self.room.show("x")
        self.assertEqual(len(told), 1)
        told.clear()
        self.assertEqual(self.room.log(), [("shown", "x", 1)] * 2)
        self.assertIsNot(self.room.log(), self.room.log())

    def test_now_is_the_very_one(self):
        self.room.now["x"] = 5
        self.assertEqual(self.room.read("x"), 5)
        self.room.put("y", 6)
        self.assertEqual(self.room.now.pairs(), (("x", 5), ("y", 6)))

    def test_copy_is_a_new_context(self):
        self.room.put("x", 1)
        one, other = self.room.copy(), self.room.copy()
        for context in (one, other):
            self.assertEqual(context, self.room.now)
            self.assertIsNot(context, self.room.now)
            self.assertIs(context.is_busy, False)
        self.assertIsNot(one, other)
        self.room.put("x", 2)
        one["y"] = 3
        self.assertEqual((one.pairs(), other.pairs()), ((("x", 1), ("y", 3)), (("x", 1),)))
        self.assertEqual(self.room.now.pairs(), (("x", 2),))


class TestTokens(RoomCase):

    def test_hold_makes_the_token_ahead(self):
        token = self.room.hold("x", 5)
        self.assertIsInstance(token, Token)
        self.assertIs(token.context, self.room.now)
        self.assertEqual((token.variable, token.old, token.is_used), ("x", None, False))
        other = self.room.hold("x", 6)
        self.assertEqual((other.old, self.room.read("x")), (5, 6))
        self.assertEqual(self.room.log(), [])

    def test_reset_in_order(self):
        one, two, three = self.room.hold("x", 1), self.room.hold("x", 2), self.room.hold("x", 3)
        for token, value in ((three, 2), (two, 1)):
            self.assertIsNone(self.room.reset(token))
            self.assertEqual(self.room.read("x"), value)
            self.assertIs(token.is_used, True)
        self.room.reset(one)
        self.assert_fails("unset", self.room.read, "x")
        self.assertEqual(self.room.log(), [])

    def test_reset_out_of_order(self):
        one, two, three = self.room.hold("x", 1), self.room.hold("x", 2), self.room.hold("x", 3)
        self.room.reset(two)
        self.assertEqual(self.room.read("x"), 1)
        self.room.reset(one)
        self.assert_fails("unset", self.room.read, "x")
        self.room.reset(three)
        self.assertEqual(self.room.read("x"), 2)

    def test_whatever_was_set_since(self):
        token, unset = self.room.hold("x", 1), self.room.hold("y", 2)
        self.room.drop("x")
        self.room.put("y", 8)
        self.room.put("z", 9)
        self.room.reset(token)
        self.room.reset(unset)
        self.assertEqual(self.room.now.pairs(), (("z", 9),))
        self.room.put("x", 4)
        token = self.room.hold("x", 5)
        self.room.drop("x")
        self.room.reset(token)
        self.assertEqual(self.room.read("x"), 4)

    def test_a_value_of_zero_is_remembered(self):
        self.room.put("x", 0)
        token = self.room.hold("x", 1)
        self.room.reset(token)
        self.assertEqual(self.room.read("x"), 0)

    def test_used(self):
        token = self.room.hold("x", 1)
        self.room.reset(token)
        self.room.put("x", 7)
        for _ in range(2):
            self.assert_fails("used", self.room.reset, token)
            self.assertEqual(self.room.now.pairs(), (("x", 7),))
            self.assertIs(token.is_used, True)

    def test_elsewhere_changes_nothing(self):
        self.room.put("x", 1)
        token = self.room.hold("x", 2)
        other = self.room.copy()
        self.assert_fails("elsewhere", self.room.run, other, self.room.reset, token)
        self.assertIs(token.is_used, False)
        self.assertEqual((other["x"], self.room.read("x")), (2, 2))
        self.room.reset(token)
        self.assertEqual((other["x"], self.room.read("x")), (2, 1))

    def test_elsewhere_is_about_the_very_context(self):
        token = self.room.hold("x", 2)
        equal = Context((("x", 2),))
        self.assertEqual(equal, self.room.now)
        self.assert_fails("elsewhere", self.room.run, equal, self.room.reset, token)

    def test_used_comes_ahead_of_elsewhere(self):
        token = self.room.hold("x", 2)
        self.room.reset(token)
        self.assert_fails("used", self.room.run, Context(), self.room.reset, token)

    def test_tokens_made_by_themselves_and_in_other_rooms(self):
        self.room.put("x", 3)
        token = Token(self.room.now, "x")
        self.room.put("x", 4)
        self.room.reset(token)
        self.assertEqual(self.room.read("x"), 3)
        other = Room(BOOK)
        self.assert_fails("used", other.reset, token)
        foreign = other.hold("x", 8)
        self.assert_fails("elsewhere", self.room.reset, foreign)
        self.assertEqual((self.room.read("x"), other.read("x"), foreign.is_used), (3, 8, False))

    def test_a_token_of_a_context_that_is_entered_in_another_room(self):
        context, other = Context((("x", 1),)), Room(BOOK)
        token = self.room.run(context, self.room.hold, "x", 2)
        other.run(context, other.reset, token)
        self.assertEqual(context["x"], 1)
        self.assert_fails("used", self.room.run, context, self.room.reset, token)


class TestRun(RoomCase):

    def test_it_returns_what_the_deed_returns(self):
        def deed(*args, **more):
            return (self.room.now, args, more)
        context = Context()
        told = self.room.run(context, deed, 1, "b", word=3, x=4)
        self.assertIs(told[0], context)
        self.assertEqual(told[1:], ((1, "b"), {"word": 3, "x": 4}))
        self.assertEqual(self.room.run(context, deed)[1:], ((), {}))
        self.assertIsNone(self.room.run(context, lambda: None))

    def test_the_context_is_the_current_one_and_in_use_in_the_deed_alone(self):
        elder, context = self.room.now, Context((("x", 1),))

        def deed():
            self.assert_now(context)
            self.assertIs(elder.is_busy, True)
            self.room.put("x", self.room.read("x") + 1)
            self.room.show("x")
        self.room.run(context, deed)
        self.assert_now(elder, context)
        self.assertEqual((context["x"], elder.pairs()), (2, ()))
        self.room.run(context, deed)
        self.assertEqual(self.room.log(), [("shown", "x", 2), ("shown", "x", 3)])

    def test_an_error_goes_on_and_the_elder_context_is_back(self):
        elder, context = self.room.now, Context()
        for error in (Wrong("w"), Fails("own"), KeyError("k"), ZeroDivisionError(), KeyboardInterrupt(), SystemExit()):
            def deed(which):
                self.assert_now(context)
                raise which
            with self.assertRaises(type(error)) as caught:
                self.room.run(context, deed, error)
            self.assertIs(caught.exception, error)
            self.assert_now(elder, context)

    def test_entered(self):
        called = []
        self.assert_fails("entered", self.room.run, self.room.now, called.append, 1)
        context, first = Context(), self.room.now

        def deed():
            for busy in (context, first):
                self.assert_fails("entered", self.room.run, busy, called.append, 1)
                self.assert_now(context)
            return self.room.run(Context(), lambda: self.assert_fails("entered", self.room.run, context, len, "a"))
        self.room.run(context, deed)
        self.assertEqual(called, [])
        self.assert_now(first, context)

    def test_a_context_in_use_in_one_room_is_entered_in_no_other(self):
        other, context, called = Room(BOOK), Context(), []
        self.assert_fails("entered", other.run, self.room.now, called.append, 1)
        self.assert_fails("entered", self.room.run, other.now, called.append, 1)
        self.room.run(context, lambda: self.assert_fails("entered", other.run, context, called.append, 1))
        self.assertEqual(called, [])
        other.run(context, called.append, 2)
        self.assertEqual(called, [2])

    def test_sixty_within_one_another(self):
        contexts = [Context((("x", number),)) for number in range(60)]
        seen = []

        def deed(left):
            seen.append(self.room.read("x"))
            for busy in contexts[:60 - len(left)]:
                self.assertIs(busy.is_busy, True)
            if left:
                self.room.run(left[0], deed, left[1:])
            self.assertIs(self.room.now, contexts[59 - len(left)])
        self.room.run(contexts[0], deed, contexts[1:])
        self.assertEqual(seen, list(range(60)))
        self.assertEqual([context.is_busy for context in contexts], [False] * 60)

    def test_sixty_within_one_another_and_an_error(self):
        contexts, first = [Context() for _ in range(60)], self.room.now

        def deed(left):
            if not left:
                raise Wrong("deep")
            self.room.run(left[0], deed, left[1:])
        with self.assertRaises(Wrong):
            deed(contexts)
        self.assert_now(first)
        self.assertEqual([context.is_busy for context in contexts], [False] * 60)


class TestWithin(RoomCase):

    def test_it_gives_the_context(self):
        elder, context = self.room.now, Context((("x", 1),))
        with self.room.within(context) as one:
            self.assertIs(one, context)
            self.assert_now(context)
            self.room.put("x", 2)
        self.assert_now(elder, context)
        self.assertEqual((context["x"], elder.pairs()), (2, ()))

    def test_it_begins_where_its_block_stands(self):
        elder, context, other = self.room.now, Context(), Context()
        manager = self.room.within(context)
        self.assert_now(elder, context)
        with self.room.within(other):
            with manager:
                self.assert_now(context)
            self.assert_now(other, context)
        self.assert_now(elder, other)

    def test_made_while_the_context_is_in_use(self):
        context = Context()
        with self.room.within(context):
            manager = self.room.within(context)
            self.assert_fails("entered", under, manager, lambda one: self.fail("called"))
        with self.room.within(context):
            self.assert_fails("entered", under, self.room.within(context), len)
            self.assert_now(context)

    def test_made_of_the_current_context(self):
        self.assert_fails("entered", under, self.room.within(self.room.now), lambda one: self.fail("called"))
        self.assert_now(self.room.now)

    def test_made_within_and_begun_outside(self):
        elder, context, other = self.room.now, Context(), Context()
        with self.room.within(other):
            manager = self.room.within(context)
        with manager:
            self.assert_now(context, other)
        self.assert_now(elder, context)

    def test_it_gives_back_the_elder_one_however_the_block_ends(self):
        elder, context = self.room.now, Context()
        for error in (Wrong, KeyboardInterrupt, Fails):
            with self.assertRaises(error):
                with self.room.within(context):
                    raise error("why")
            self.assert_now(elder, context)
        for _ in range(2):
            with self.room.within(context):
                break
        self.assert_now(elder, context)
        self.assertEqual(self.leaves(context), 5)
        self.assert_now(elder, context)

    def leaves(self, context):
        with self.room.within(context):
            return 5

    def test_a_context_in_use_in_one_room_is_entered_in_no_other(self):
        other, context = Room(BOOK), Context()
        with self.room.within(context):
            self.assert_fails("entered", under, other.within(context), len)
            self.assert_fails("entered", other.run, context, len, "")
        with other.within(context):
            self.assert_fails("entered", under, self.room.within(context), len)
        with self.room.within(context), other.within(self.room.copy()):
            self.assertIs(self.room.now, context)

    def test_two_objects_of_one_context_one_behind_the_other(self):
        context = Context()
        one, other = self.room.within(context), self.room.within(context)
        with one:
            self.assert_now(context)
        with other:
            self.assert_now(context)
        self.assertIs(context.is_busy, False)

    def test_sixty_within_one_another(self):
        contexts = [Context() for _ in range(60)]

        def deed(left):
            if left:
                with self.room.within(left[0]) as one:
                    self.assert_now(one)
                    deed(left[1:])
                    self.assert_now(one)
        deed(contexts)
        self.assertEqual([context.is_busy for context in contexts], [False] * 60)


class TestUnder(RoomCase):

    def test_it_returns_what_the_deed_returns(self):
        context, elder = Context((("x", 4),)), self.room.now
        self.assertIs(under(self.room.within(context), lambda one: one), context)
        self.assertEqual(under(self.room.within(context), lambda one: self.room.read("x")), 4)
        self.assert_now(elder, context)

    def test_an_error_of_the_deed(self):
        context, elder = Context(), self.room.now
        with self.assertRaises(Wrong):
            under(self.room.within(context), self.refuse)
        self.assert_now(elder, context)

    def refuse(self, one):
        raise Wrong(one)

    def test_any_manager(self):
        class Manager:
            told = []

            def __enter__(self):
                self.told.append("in")
                return 7

            def __exit__(self, *told):
                self.told.append("out")
        self.assertEqual(under(Manager(), lambda one: one + len(Manager.told)), 8)
        self.assertEqual(Manager.told, ["in", "out"])


class TestMake(unittest.TestCase):

    def setUp(self):
        self.room = Room(read_book(
            "vars x;piece none{};piece c c context{};piece t t token{};piece ct c context t token{};"
            "piece tt s token t token{};piece cc c context d context{yield}"))
        self.context = Context()
        self.token = self.room.hold("x", 1)

    def test_each_kind_of_args(self):
        good = {"none": [()], "c": [(self.context,), (None,), (self.room.now,)], "t": [(self.token,), (None,)],
                "ct": [(self.context, self.token), (None, self.token), (self.context, None), (None, None)],
                "tt": [(self.token, self.token), (None, self.token)], "cc": [(self.context, self.context)]}
        for name, calls in good.items():
            for args in calls:
                made = self.room.make(name, *args)
                self.assertIsInstance(made, Instance)
                self.assertIs(vars(made)["is_over"], False)
        self.assertEqual(self.room.log(), [])

    def test_too_few_and_too_many(self):
        for name, args in (("none", (None,)), ("c", ()), ("c", (None, None)), ("t", ()), ("ct", (self.context,)),
                           ("ct", ()), ("tt", (self.token,) * 3), ("cc", (self.context,) * 3)):
            with self.assertRaises(BadQuestion):
                self.room.make(name, *args)

    def test_another_kind(self):
        for name, args in (("c", (self.token,)), ("t", (self.context,)), ("ct", (self.token, self.context)),
                           ("ct", (self.context, self.context)), ("ct", (self.token, self.token)),
                           ("cc", (self.context, self.token)), ("tt", (self.context, self.token)),
                           ("cc", (None, self.token))):
            with self.assertRaises(BadQuestion):
                self.room.make(name, *args)
        for thing in odd_values() + odd_tuples():
            for name in ("c", "t"):
                if thing is not None:
                    with self.assertRaises(BadQuestion):
                        self.room.make(name, thing)
            with self.assertRaises(BadQuestion):
                self.room.make("ct", self.context, self.context if thing is None else thing)
        with self.assertRaises(BadQuestion):
            self.room.make("t", self.room.make("none"))
        with self.assertRaises(BadQuestion):
            self.room.make("c", Context)

    def test_names_of_anything(self):
        for name in odd_values() + odd_tuples() + ["x", "d", "nones", "None", ("none",), Hostile()]:
            for args in ((), (self.context,), (None, None)):
                with self.assertRaises(BadQuestion):
                    self.room.make(name, *args)

    def test_an_empty_book_makes_nothing(self):
        with self.assertRaises(BadQuestion):
            Room(BOOK).make("p")


if __name__ == "__main__":
    unittest.main()

"""Contexts and tokens: [2], what a token is and remembers in [3], and stepwhere/contexts.py."""

import unittest

from stepwhere.contexts import Context, Token
from stepwhere.errors import Fails

VALUES = (0, 1, -1, 99, 100, -10000, int("7" * 4000), -int("7" * 4000))


class TestContext(unittest.TestCase):

    def assert_unset(self, context, variable):
        self.assertNotIn(variable, context)
        with self.assertRaises(Fails) as caught:
            context[variable]
        self.assertEqual(caught.exception.word, "unset")

    def test_a_new_one_has_all_unset(self):
        context = Context()
        self.assertEqual(len(context), 0)
        self.assertEqual(context.pairs(), ())
        self.assert_unset(context, "x")
        self.assertIs(context.is_busy, False)

    def test_pairs_are_set_and_the_others_unset(self):
        for pairs in ((("y", 2), ("x", -1)), [("y", 2), ("x", -1)], [["y", 2], ["x", -1]]):
            context = Context(pairs)
            self.assertEqual((context["x"], context["y"], len(context)), (-1, 2, 2))
            self.assertIs("x" in context, True)
            self.assertIs("z" in context, False)
            self.assert_unset(context, "z")
        self.assertEqual(Context(pairs=(("x", 3),))["x"], 3)

    def test_values_of_any_sign_and_size(self):
        for value in VALUES:
            context = Context((("x", value),))
            self.assertEqual(context["x"], value)
            context["y"] = value
            self.assertEqual(context["y"], value)
            self.assertEqual(context.pairs(), (("x", value), ("y", value)))

    def test_zero_is_set(self):
        context = Context((("x", 0),))
        self.assertIn("x", context)
        self.assertEqual(len(context), 1)
        self.assertNotEqual(context, Context())

    def test_names_of_one_and_eight_letters_and_python_words(self):
        context = Context()
        for number, name in enumerate(("a", "z", "abcdefgh", "zzzzzzzz", "if", "vars", "pairs", "drop")):
            context[name] = number
            self.assertEqual(context[name], number)
            self.assertEqual(len(context), number + 1)

    def test_set_again(self):
        context = Context((("x", 1),))
        context["x"] = 2
        self.assertEqual((context["x"], len(context)), (2, 1))

    def test_drop_of_what_is_set_and_what_is_not(self):
        context = Context((("x", 1), ("y", 2)))
        self.assertIsNone(context.drop("x"))
        self.assert_unset(context, "x")
        self.assertEqual(context.pairs(), (("y", 2),))
        self.assertIsNone(context.drop("x"))
        self.assertIsNone(context.drop("z"))
        self.assertEqual(context.pairs(), (("y", 2),))
        context["x"] = 5
        self.assertEqual(context["x"], 5)

    def test_pairs_ascend_however_they_were_set(self):
        context = Context((("z", 1), ("b", 2)))
        context["a"] = 3
        context["ab"] = 4
        self.assertEqual(context.pairs(), (("a", 3), ("ab", 4), ("b", 2), ("z", 1)))

    def test_what_is_passed_is_not_kept_or_changed(self):
        pairs = [["x", 1], ["y", 2]]
        context = Context(pairs)
        pairs[0][1] = 9
        pairs.append(["z", 3])
        self.assertEqual(context.pairs(), (("x", 1), ("y", 2)))
        pairs = [("x", 1)]
        context = Context(pairs)
        context["x"] = 2
        context["y"] = 3
        self.assertEqual(pairs, [("x", 1)])

    def test_two_new_ones_share_nothing(self):
        one, other = Context(), Context()
        one["x"] = 1
        self.assert_unset(other, "x")

    def test_a_copy_is_equal_and_apart(self):
        context = Context((("x", 1), ("y", 2)))
        context.is_busy = True
        other = context.copy()
        self.assertIsInstance(other, Context)
        self.assertEqual(other, context)
        self.assertIs(other.is_busy, False)
        self.assertIs(context.is_busy, True)
        other["x"] = 5
        other.drop("y")
        self.assertEqual(context.pairs(), (("x", 1), ("y", 2)))
        context["z"] = 7
        self.assertEqual(other.pairs(), (("x", 5),))

    def test_equality(self):
        context = Context((("x", 1), ("y", 2)))
        same = Context((("y", 2), ("x", 1)))
        self.assertIs(context == same, True)
        self.assertIs(context != same, False)
        same.is_busy = True
        self.assertIs(context == same, True)
        for other in (Context(), Context((("x", 1),)), Context((("x", 1), ("y", 3))),
                      Context((("x", 1), ("z", 2))), Context((("x", 1), ("y", 2), ("z", 3)))):
            self.assertIs(context == other, False)
            self.assertIs(context != other, True)

    def test_equality_with_other_kinds_of_values(self):
        context = Context((("x", 1),))
        for other in (None, True, 1, "x", (("x", 1),), {"x": 1}, [("x", 1)], object(), Context, Token(context, "x")):
            self.assertIs(context == other, False)
            self.assertIs(context != other, True)
        self.assertIs(Context() == (), False)
        self.assertIs(Context() == {}, False)

    def test_is_same_asks_for_the_very_one(self):
        context = Context((("x", 1),))
        again = context
        self.assertIs(context.is_same(again), True)
        self.assertIs(context.is_same(context.copy()), False)
        self.assertIs(Context().is_same(Context()), False)

    def test_is_busy_is_a_plain_attribute_of_each(self):
        one, other = Context(), Context()
        one.is_busy = True
        self.assertIs(other.is_busy, False)
        one.is_busy = False
        self.assertIs(one.is_busy, False)

    def test_its_methods_stand_in_the_class_itself(self):
        for name in ("__init__", "__getitem__", "__setitem__", "__contains__", "__len__", "__eq__",
                     "drop", "pairs", "copy", "is_same"):
            self.assertIn(name, vars(Context))

    def test_it_is_not_iterated_over(self):
        with self.assertRaises(TypeError):
            list(Context((("x", 1),)))


class TestToken(unittest.TestCase):

    def test_of_a_set_variable(self):
        for value in VALUES:
            context = Context((("x", value), ("y", 5)))
            token = Token(context, "x")
            self.assertIs(token.context, context)
            self.assertEqual(token.variable, "x")
            self.assertEqual(token.old, value)
            self.assertIs(token.is_used, False)

    def test_of_an_unset_variable(self):
        context = Context((("y", 5),))
        token = Token(context, "x")
        self.assertIs(token.context, context)
        self.assertEqual(token.variable, "x")
        self.assertIsNone(token.old)
        self.assertIs(token.is_used, False)

    def test_it_remembers_what_was_before_a_change(self):
        context = Context((("x", 1),))
        first, unset = Token(context, "x"), Token(context, "y")
        context["x"] = 2
        context["y"] = 3
        second = Token(context, "x")
        context.drop("x")
        third = Token(context, "x")
        context["x"] = 4
        self.assertEqual((first.old, second.old), (1, 2))
        self.assertIsNone(third.old)
        self.assertIsNone(unset.old)
        self.assertEqual(Token(context, "y").old, 3)

    def test_making_it_changes_nothing(self):
        context = Context((("x", 1),))
        Token(context, "x")
        Token(context, "y")
        self.assertEqual(context.pairs(), (("x", 1),))

    def test_it_remembers_the_context_and_not_an_equal_one(self):
        context = Context((("x", 1),))
        token = Token(context, "x")
        self.assertFalse(token.context.is_same(context.copy()))
        context["x"] = 8
        self.assertEqual(token.context["x"], 8)

    def test_is_used_is_a_plain_attribute_of_each(self):
        context = Context()
        one, other = Token(context, "x"), Token(context, "x")
        one.is_used = True
        self.assertIs(other.is_used, False)


if __name__ == "__main__":
    unittest.main()

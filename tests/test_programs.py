"""What is a program of a book, [9], the place of the first fault of what is none, [10], and what is in a program."""

import unittest

from samples import HUGE, Hostile, book_of, deep_tuple, doubled_tuple, odd_tuples, odd_values
from stepwhere import programs
from stepwhere.booktexts import read_book
from stepwhere.errors import BadBook, BadProgram
from stepwhere.programs import calls_in, need_program, slots_in

BOOK = read_book("vars x y; piece none {}; piece c c context {}; piece t t token {}; piece ct c context t token {};"
                 "piece tt s token t token {}; piece cc a context b context {}")
STEPS = (
    ("set", "x", 5),
    ("hold", "t", "y", 9999),
    ("reset", "t"),
    ("drop", "y"),
    ("show", "x"),
    ("copy", "c"),
    ("within", "c", (("show", "x"),)),
    ("guard", (("show", "y"), ("drop", "x"))),
    ("make", "p", "none", ()),
    ("make", "p", "ct", ("c", "t")),
    ("step", "p"),
    ("close", "p"),
)
GOOD = ("show", "x")


def place_of(thing, book=BOOK):
    """The place of BadProgram, or None of a program; all three functions must agree."""
    places = []
    for ask in (need_program, slots_in, calls_in):
        try:
            told = ask(book, thing)
            places.append(None)
            if ask is need_program:
                assert told is thing
        except BadProgram as error:
            places.append(error.place)
    assert places[0] == places[1] == places[2]
    return places[0]


def around(step, times):
    """The step within that many others."""
    for number in range(times):
        step = ("guard", (step,)) if number % 2 else ("within", "c", (step,))
    return step


def items_in(thing, path=()):
    """The paths to each item of a tuple of tuples, itself too."""
    found = [path]
    if isinstance(thing, tuple):
        for at, item in enumerate(thing):
            found.extend(items_in(item, path + (at,)))
    return found


def item_at(thing, path):
    for at in path:
        thing = thing[at]
    return thing


def changed(thing, path, new):
    """The thing with new at the end of the path."""
    if not path:
        return new
    at = path[0]
    return thing[:at] + (changed(thing[at], path[1:], new),) + thing[at + 1:]


def way_at(program, path):
    """The way to the innermost step that a path from a program goes through."""
    if not path:
        return ()
    step, rest = program[path[0]], path[1:]
    if len(rest) < 2 or step[0] not in ("within", "guard"):
        return (path[0],)
    return (path[0], 0) + way_at(step[rest[0]], rest[1:])


class TestPrograms(unittest.TestCase):

    def test_constant(self):
        self.assertEqual(programs.MOST_DEEP, 12)

    def test_each_step_alone_and_all_together(self):
        for step in STEPS:
            self.assertIsNone(place_of((step,)))
            self.assertIsNone(place_of((GOOD, step, step)))
        self.assertIsNone(place_of(STEPS))
        self.assertIsNone(place_of(STEPS * 20))

    def test_the_empty_program(self):
        self.assertIsNone(place_of(()))
        self.assertIsNone(place_of((("guard", ()), ("within", "c", ()))))

    def test_no_tuple(self):
        for thing in odd_values() + [list(STEPS), "set x 5", {}, STEPS[0][0]]:
            self.assertEqual(place_of(thing), ())

    def test_bad_book_comes_first(self):
        for thing in odd_values() + [book_of(("fail",), ("nothing",))]:
            for program in ((), None, Hostile(), (None,)):
                for ask in (need_program, slots_in, calls_in):
                    with self.assertRaises(BadBook) as caught:
                        ask(thing, program)
                    self.assertEqual(caught.exception.place, (0, (1,)) if isinstance(thing, tuple) else ())


class TestForms(unittest.TestCase):

    def test_a_part_too_few_and_one_too_many(self):
        for step in STEPS:
            self.assertEqual(place_of((GOOD, step[:-1])), (1,), step)
            for more in (1, "x", (), None):
                self.assertEqual(place_of((GOOD, step + (more,))), (1,), step)

    def test_a_list_in_the_place_of_a_tuple(self):
        for step in STEPS:
            self.assertEqual(place_of((GOOD, list(step))), (1,))
            if isinstance(step[-1], tuple):
                self.assertEqual(place_of((GOOD, step[:-1] + (list(step[-1]),))), (1,))
        self.assertEqual(place_of((("guard", (GOOD, list(GOOD))),)), (0, 0, 1))
        self.assertEqual(place_of((("make", "p", "c", ["c"]),)), (0,))

    def test_words(self):
        for word in ("", "Set", "if", "with", "loop", "leave", "yield", "fail", "sets", "play", None, 0, ("set",)):
            for parts in ((), ("x",), ("x", 1), ("x", 1, ()), ("x", 1, (), ())):
                self.assertEqual(place_of((GOOD, (word, *parts))), (1,))
        self.assertEqual(place_of(("show",)), (0,))
        self.assertEqual(place_of(("show", "x")), (0,))
        self.assertEqual(place_of(((),)), (0,))

    def test_words_of_statements_with_their_own_forms(self):
        self.assertEqual(place_of((("guard", (), ()),)), (0,))
        self.assertEqual(place_of((("set", "x", "y"),)), (0,))
        self.assertEqual(place_of((("hold", "t", "x", "y"),)), (0,))
        self.assertEqual(place_of((("make", "p", "none"),)), (0,))

    def test_variables_are_of_the_book(self):
        forms = (lambda v: ("set", v, 1), lambda v: ("hold", "t", v, 1), lambda v: ("drop", v), lambda v: ("show", v))
        for form in forms:
            for variable in ("x", "y"):
                self.assertIsNone(place_of((GOOD, form(variable))))
            for variable in ("z", "t", "none", "", "X", "abcdefghi", "x1", None, ("x",), 0, 5, True, HUGE):
                self.assertEqual(place_of((GOOD, form(variable))), (1,))

    def test_integers(self):
        for form in (lambda n: ("set", "x", n), lambda n: ("hold", "t", "x", n)):
            for number in (0, 1, 99, 100, 9998, 9999):
                self.assertIsNone(place_of((form(number),)))
            for number in (-1, 10000, HUGE, -HUGE, True, False, None, "1", (1,), [1]):
                self.assertEqual(place_of((form(number),)), (0,))

    def test_true_and_false_after_an_equal_program(self):
        for form in (lambda n: ("set", "x", n), lambda n: ("hold", "t", "x", n)):
            for number, other in ((1, True), (0, False)):
                self.assertEqual((form(number),), (form(other),))
                self.assertIsNone(place_of((form(number),)))
                self.assertEqual(place_of((form(other),)), (0,))

    def test_slots_are_names(self):
        forms = (lambda s: ("hold", s, "x", 1), lambda s: ("reset", s), lambda s: ("copy", s),
                 lambda s: ("within", s, ()), lambda s: ("make", s, "none", ()), lambda s: ("step", s),
                 lambda s: ("close", s), lambda s: ("make", "q", "c", (s,)), lambda s: ("make", "q", "ct", ("r", s)))
        for form in forms:
            for slot in ("a", "abcdefgh", "x", "none", "make", "token", "vars", "piece", "context"):
                self.assertIsNone(place_of((form(slot),)), slot)
            for slot in ("", "abcdefghi", "A", "aB", "a1", "1", "a_", " ", 1, None, ("a",), True):
                self.assertEqual(place_of((GOOD, form(slot))), (1,), slot)

    def test_names_of_pieces(self):
        for name in ("nones", "x", "p", "", "None", "abcdefghi", None, 0, ("none",), ()):
            self.assertEqual(place_of((GOOD, ("make", "p", name, ()))), (1,))
        self.assertEqual(place_of((("make", "p", "none", ()),), (("x",), ())), (0,))

    def test_names_that_are_words_of_the_language(self):
        words = ("set", "make", "guard", "context", "piece")
        for word in words:
            book = ((word,), ((word, ((word, "context"),), ()),))
            program = (("set", word, 1), ("copy", word), ("within", word, (("show", word),)), ("make", "p", word, (word,)))
            self.assertIsNone(place_of(program, book))
            self.assertEqual(slots_in(book, program), {"p": "piece", word: "context"})

    def test_counts_of_args(self):
        for name, right in (("none", ()), ("c", ("c",)), ("t", ("t",)), ("ct", ("c", "t")), ("tt", ("t", "u")),
                            ("cc", ("c", "d"))):
            self.assertIsNone(place_of((("make", "p", name, right),)))
            self.assertEqual(place_of((GOOD, ("make", "p", name, right[:-1] if right else ("c",)))), (1,))
            self.assertEqual(place_of((GOOD, ("make", "p", name, right + ("e",)))), (1,))
        self.assertEqual(place_of((("make", "p", "none", ("c",) * 100000),)), (0,))

    def test_one_slot_twice_among_args(self):
        self.assertIsNone(place_of((("make", "p", "tt", ("t", "t")),)))
        self.assertIsNone(place_of((("make", "p", "cc", ("c", "c")), ("within", "c", ()))))
        self.assertEqual(place_of((GOOD, ("make", "p", "ct", ("s", "s")))), (1,))


class TestKinds(unittest.TestCase):

    uses = {
        "context": (("copy", "s"), ("within", "s", ()), ("make", "q", "c", ("s",)), ("make", "q", "cc", ("r", "s"))),
        "token": (("hold", "s", "x", 1), ("reset", "s"), ("make", "q", "t", ("s",)), ("make", "q", "tt", ("s", "u"))),
        "piece": (("make", "s", "none", ()), ("step", "s"), ("close", "s"), ("make", "s", "c", ("r",))),
    }

    def test_one_kind_in_the_whole_program(self):
        for kind, steps in self.uses.items():
            self.assertIsNone(place_of(steps + steps))
            self.assertEqual(slots_in(BOOK, steps)["s"], kind)

    def test_two_kinds(self):
        for kind, steps in self.uses.items():
            for other, others in self.uses.items():
                for one in steps:
                    for two in others:
                        place = None if kind == other else (2,)
                        self.assertEqual(place_of((one, GOOD, two)), place)
                        inside = None if kind == other else (1, 0, 1)
                        self.assertEqual(place_of((one, ("guard", (GOOD, two)))), inside)
                        behind = None if kind == other else (1,)
                        self.assertEqual(place_of((("guard", (("guard", (one,)),)), two)), behind)

    def test_a_step_around_is_met_ahead_of_those_within(self):
        for step in (("reset", "s"), ("step", "s")):
            self.assertEqual(place_of((("within", "s", (step,)),)), (0, 0, 0))
        self.assertEqual(place_of((("guard", (("reset", "s"),)), ("within", "s", ()))), (1,))

    def test_the_own_slot_of_a_make_comes_ahead_of_its_args(self):
        self.assertEqual(place_of((GOOD, ("make", "s", "c", ("s",)))), (1,))
        self.assertEqual(place_of((GOOD, ("make", "s", "ct", ("c", "s")))), (1,))
        self.assertEqual(slots_in(BOOK, (("make", "b", "ct", ("c", "a")),)), {"a": "token", "b": "piece", "c": "context"})

    def test_slots_of_pieces_are_not_those_of_the_program(self):
        self.assertIsNone(place_of((("reset", "c"), ("copy", "t"), ("make", "p", "ct", ("t", "c")))))


class TestDepth(unittest.TestCase):

    def test_within_twelve_and_within_thirteen(self):
        for inner in (GOOD, ("step", "p"), ("guard", ())):
            self.assertIsNone(place_of((GOOD, around(inner, 12))))
            self.assertEqual(place_of((GOOD, around(inner, 13))), (1,) + (0, 0) * 13)
            self.assertEqual(place_of((around(inner, 14),)), (0,) + (0, 0) * 13)
        self.assertEqual(place_of((around(("guard", (GOOD, GOOD)), 12),)), (0,) + (0, 0) * 13)

    def test_very_deep_tuples(self):
        step = GOOD
        for _ in range(20000):
            step = ("guard", (step,))
        self.assertEqual(place_of((step,)), (0,) + (0, 0) * 13)
        self.assertEqual(place_of((GOOD, ("show", "y"), deep_tuple(20000))), (2,))
        self.assertEqual(place_of(deep_tuple(20000)), (0,))
        self.assertEqual(place_of((("set", "x", deep_tuple(20000)),)), (0,))
        self.assertEqual(place_of((("make", "p", "none", deep_tuple(20000)),)), (0,))
        self.assertEqual(place_of((("guard", deep_tuple(20000)),)), (0, 0, 0))

    def test_tuples_that_are_shared_many_times(self):
        program = (GOOD,)
        for _ in range(12):
            program = (("guard", program), ("guard", program))
        self.assertIsNone(place_of(program))
        for _ in range(300):
            program = (("guard", program), ("guard", program))
        self.assertEqual(place_of(program), (0,) + (0, 0) * 13)
        self.assertEqual(place_of(doubled_tuple(200)), (0,))
        self.assertEqual(place_of((("guard", doubled_tuple(200)),)), (0, 0, 0))

    def test_any_number_of_steps(self):
        many = 100000
        self.assertIsNone(place_of((GOOD,) * many))
        self.assertEqual(place_of((GOOD,) * many + (("show", "z"),)), (many,))
        self.assertEqual(place_of((("guard", (GOOD,) * many + (None,)),)), (0, 0, many))
        self.assertEqual(calls_in(BOOK, (("step", "p"), ("guard", (("close", "p"),))) * 20000), 40000)


class TestTwoFaults(unittest.TestCase):

    faults = (("nothing",), ["show", "x"], None, ("show", "z"), ("set", "x", 10000), ("make", "p", "nobody", ()),
              ("make", "p", "c", ()), ("make", "p", "none", ("c",)), ("reset", "c"), ("copy", "c", "c"),
              ("guard", []), ("within", "C", ()), ("make", "c", "none", ()), ("make", "p", "t", ("c",)))

    def test_each_alone(self):
        for fault in self.faults:
            self.assertEqual(place_of((("copy", "c"), fault)), (1,))
            self.assertEqual(place_of((("copy", "c"), ("guard", (GOOD, ("guard", (fault,)))))), (1, 0, 1, 0, 0))
            self.assertEqual(place_of((("within", "c", (GOOD, fault)),)), (0, 0, 1))

    def test_the_first_met_is_told(self):
        for one in self.faults:
            for other in self.faults:
                self.assertEqual(place_of((("copy", "c"), one, other)), (1,))
                self.assertEqual(place_of((("copy", "c"), ("guard", (GOOD, one)), other)), (1, 0, 1))
                self.assertEqual(place_of((("copy", "c"), ("guard", (one, other)))), (1, 0, 0))
                self.assertEqual(place_of((("copy", "c"), one, ("guard", (other,)))), (1,))

    def test_the_step_around_ahead_of_those_within(self):
        for outer in (("within", "C", (None,)), ("within", "t", (None,)), ("guard", (None,), ()), ("guards", (None,))):
            self.assertEqual(place_of((("reset", "t"), outer)), (1,))

    def test_too_deep_and_wrong(self):
        for inner in self.faults:
            self.assertEqual(place_of((around(inner, 13),)), (0,) + (0, 0) * 13)
            self.assertEqual(place_of((around(inner, 12),)), (0,) + (0, 0) * 12)
        self.assertEqual(place_of((around(GOOD, 13), None)), (0,) + (0, 0) * 13)
        self.assertEqual(place_of((None, around(GOOD, 13))), (0,))


class TestAnything(unittest.TestCase):

    def test_odd_values_at_every_place(self):
        for path in items_in(STEPS):
            for thing in odd_values():
                is_right = isinstance(thing, int) and thing == 100 and isinstance(item_at(STEPS, path), int)
                place = None if is_right else way_at(STEPS, path)
                self.assertEqual(place_of(changed(STEPS, path, thing)), place, path)

    def test_odd_tuples_at_every_place(self):
        for path in items_in(STEPS):
            kept = item_at(STEPS, path)
            for thing in odd_tuples():
                place = place_of(changed(STEPS, path, thing))
                if not isinstance(kept, tuple):
                    self.assertEqual(place, way_at(STEPS, path), path)
                elif thing:
                    self.assertIsNotNone(place, path)


class TestQuestions(unittest.TestCase):

    def test_slots_of_each_step(self):
        expected = ({}, {"t": "token"}, {"t": "token"}, {}, {}, {"c": "context"}, {"c": "context"}, {}, {"p": "piece"},
                    {"c": "context", "p": "piece", "t": "token"}, {"p": "piece"}, {"p": "piece"})
        for step, slots in zip(STEPS, expected):
            for program in ((step,), (GOOD, step), (("guard", (GOOD, ("guard", (step, step)))),)):
                self.assertEqual(slots_in(BOOK, program), slots)
        self.assertEqual(slots_in(BOOK, ()), {})

    def test_slots_ascend(self):
        program = (("step", "z"), ("within", "m", (("reset", "b"), ("make", "a", "ct", ("n", "c")))), ("copy", "ab"))
        self.assertEqual(list(slots_in(BOOK, program).items()), [
            ("a", "piece"), ("ab", "context"), ("b", "token"), ("c", "token"), ("m", "context"), ("n", "context"),
            ("z", "piece")])

    def test_calls_of_each_step(self):
        for step in STEPS:
            many = 1 if step[0] in ("step", "close") else 0
            self.assertEqual(calls_in(BOOK, (step,)), many)
            self.assertEqual(calls_in(BOOK, (step, step)), 2 * many)
            self.assertEqual(calls_in(BOOK, (step, ("guard", (GOOD, ("within", "c", (step, step)))))), 3 * many)
            self.assertEqual(calls_in(BOOK, (around(step, 11),)), many)
        self.assertEqual(calls_in(BOOK, ()), 0)
        self.assertEqual(calls_in(BOOK, STEPS), 2)

    def test_what_is_told_is_the_callers_own(self):
        program = (("copy", "c"), ("step", "p"))
        told = slots_in(BOOK, program)
        self.assertIs(type(told), dict)
        told.clear()
        self.assertEqual(slots_in(BOOK, program), {"c": "context", "p": "piece"})
        self.assertIs(need_program(BOOK, program), program)
        self.assertIs(type(calls_in(BOOK, program)), int)

    def test_a_refused_thing_is_neither_changed_nor_kept(self):
        thing = (["copy", "c"], [])
        for _ in range(2):
            self.assertEqual(place_of(thing), (0,))
        self.assertEqual(thing, (["copy", "c"], []))

    def test_one_check_does_not_know_of_another(self):
        self.assertIsNone(place_of((("copy", "s"),)))
        self.assertIsNone(place_of((("reset", "s"),)))
        self.assertEqual(calls_in(BOOK, (("step", "s"),)), 1)


if __name__ == "__main__":
    unittest.main()

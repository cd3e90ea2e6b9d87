"""Pieces with the most states that were found within the bounds of [20]: every question is answered within seconds."""

import time
import unittest

from drawn import renamed
from stepwhere.alike import are_alike, classes, parting
from stepwhere.booktexts import read_book
from stepwhere.pieces import is_book
from stepwhere.reach import ends, noise, reached
from stepwhere.shorter import free, lean, needless

MOST_SECONDS = 20
TEXTS = (
    "p t token s token { with y y { if x 0 { if y 0 { } { } } { } ; yield ; if y 2 { } { } ; if x 3 { reset t } { } } ; reset s }",
    "p t token s token { guard { if x 0 { } { } ; with x x { yield ; reset t } } { } ; if y 1 { } { } ; reset s ; if x 1 { } { } }",
    "p t token s token { with x 1 { if y 3 { yield } { } ; guard { with y 2 { yield ; reset t } } { } } ; reset s }",
    "p t token c context { with y 2 { with y 0 { yield ; if x 1 { if y 2 { reset t } { } ; within c { reset t } } { } } } }",
    "p s token d context { with y 2 { loop { yield ; loop { yield ; within d { show x ; reset s } } } } }",
    "p { loop { yield ; if x 1 { hold s y 1 } { if x 2 { hold t y 2 } { reset s } } } }",
    "p { loop { yield ; if x 1 { copy c } { if x 2 { copy d } { within c { show y } } } } }",
    "p c context d context { if x 0 { } { } ; if y 1 { } { } ; within c { if x 2 { } { } ; within d { if y 3 { } { } } } ; if y 4 { } { } }",
    "p { with x 1 { yield ; with y 2 { yield ; with x 3 { yield ; with y 4 { yield } } } } }",
    "p { if x 0 { } { if x 1 { } { if x 2 { } { if x 3 { } { yield } } } } ; if y 9 { } { } ; show x }",
)


class TestHeavy(unittest.TestCase):

    def test_every_question(self):
        for text in TEXTS:
            begun = time.monotonic()
            book = read_book("vars x y ; piece " + text)
            both = (book[0], (book[1][0], renamed(book[1][0], "q")))
            self.assertTrue(is_book(both))
            self.assertIs(are_alike(both, "p", "q"), True)
            self.assertEqual(classes(both), [["p", "q"]])
            self.assertIsNone(parting(both, "q", "p"))
            for ask in (ends, reached, noise, needless, free, lean):
                ask(book, "p")
            self.assertLess(time.monotonic() - begun, MOST_SECONDS, text)


if __name__ == "__main__":
    unittest.main()

"""Readers of texts: they take word by word, and refuse the first one that cannot stand where it is."""

from stepwhere.errors import BadText
from stepwhere.forms import is_name
from stepwhere.words import words_of

MOST_SIGNS = 300000
MOST_OPEN = 40
DIGITS = "0123456789"


def is_digits(word, most):
    """Whether a word is an integer of at most that many digits, with no 0 ahead of others."""
    # The length comes first: what is very long is not walked through.
    if not 1 <= len(word) <= most or (word[0] == "0" and len(word) > 1):
        return False
    return all([sign in DIGITS for sign in word])


class Reader:
    """The words of a text that are not taken yet; forms tell what stands behind the words of statements or steps."""

    def __init__(self, text, forms, digits):
        if not isinstance(text, str) or len(text) > MOST_SIGNS:
            raise BadText(-1)
        self.words = words_of(text)
        self.at = 0
        self.open_braces = 0
        self.forms = forms
        self.digits = digits

    def peek(self):
        """The next word; the empty string, which is no word, behind the last one."""
        return self.words[self.at] if self.at < len(self.words) else ""

    def take(self, can_stand):
        """The next word, which is refused if it cannot stand."""
        if not can_stand:
            raise BadText(self.at)
        word = self.peek()
        self.at += 1
        return word

    def take_word(self, word):
        """The next word, which must be this one."""
        return self.take(self.peek() == word)

    def take_end(self):
        """Refuses the next word if there is one."""
        if self.peek() != "":
            raise BadText(self.at)

    def take_name(self):
        """The next word, which must be a name."""
        return self.take(is_name(self.peek()))

    def take_names(self):
        """The tuple of all names that come next."""
        names = []
        while is_name(self.peek()):
            names.append(self.take(True))
        return tuple(names)

    def sees_number(self):
        """Whether the next word is an integer."""
        return is_digits(self.peek(), self.digits)

    def take_number(self):
        """The integer that comes next."""
        return int(self.take(self.sees_number()))

    def take_block(self):
        """The block that comes next, in its braces."""
        self.take(self.peek() == "{" and self.open_braces < MOST_OPEN)
        self.open_braces += 1
        block = self.take_rows()
        self.take_word("}")
        self.open_braces -= 1
        return block

    def take_rows(self):
        """The tuple of the statements or steps that come next, none where the block or the text ends at once."""
        if self.peek() in ("", "}"):
            return ()
        rows = [self.take_row()]
        while self.peek() == ";":
            self.take(True)
            rows.append(self.take_row())
        return tuple(rows)

    def take_row(self):
        """The statement or step that comes next."""
        word = self.take(self.peek() in self.forms)
        row = [word]
        for kind in self.forms[word]:
            row.append(self.take_part(kind))
        return tuple(row)

    def take_part(self, kind):
        """The part that comes next, which must be of that kind."""
        if kind == "block":
            return self.take_block()
        if kind == "args":
            return self.take_names()
        if kind in ("integer", "value") or (kind == "source" and self.sees_number()):
            return self.take_number()
        return self.take_name()

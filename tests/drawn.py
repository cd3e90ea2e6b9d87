"""Pieces and programs that are drawn by chance, the same ones at each run, to ask questions about."""

import random

from stepwhere.pieces import is_book, statements_of

SIMPLE = ("set", "set", "hold", "reset", "drop", "show", "copy", "fail", "leave") + ("yield",) * 5
AROUND = ("within", "if", "if", "with", "with", "with", "guard", "guard", "guard", "loop")
CONTEXTS = ("c", "d")
TOKENS = ("s", "t")
OBSERVED = ("c", "d", "e")


def count_of(variables, piece):
    return len(statements_of((variables, (piece,)), piece[0]))


class Drawer:

    def __init__(self, seed, variables=("x", "y"), most=8, numbers=(0, 1)):
        self.chance = random.Random(seed)
        self.variables = variables
        self.most = most
        self.numbers = numbers

    def pick(self, things):
        return self.chance.choice(things)

    def is_met(self, often):
        return self.chance.random() < often

    def source(self):
        return self.pick(self.numbers * 2 + self.variables)

    def block(self, deep, words, often):
        rows = []
        while self.is_met(often):
            rows.append(self.statement(deep, words))
        return tuple(rows)

    def statement(self, deep, words=SIMPLE):
        word = self.pick(words + AROUND if deep < 4 else words)
        variable = self.pick(self.variables)
        if word == "set":
            return (word, variable, self.source())
        if word == "hold":
            return (word, self.pick(TOKENS), variable, self.source())
        if word == "reset":
            return (word, self.pick(TOKENS))
        if word in ("drop", "show"):
            return (word, variable)
        if word == "copy":
            return (word, self.pick(CONTEXTS))
        return self.statement_around(word, variable, deep + 1, words)

    def statement_around(self, word, variable, deep, words):
        if word == "within":
            inner = tuple([one for one in words if one not in ("yield", "leave")])
            return (word, self.pick(CONTEXTS), self.block(deep, inner, 0.6))
        if word == "if":
            return (word, variable, self.pick(self.numbers), self.block(deep, words, 0.4), self.block(deep, words, 0.3))
        if word == "with":
            return (word, variable, self.source(), self.block(deep, words, 0.7))
        if word == "guard" and "yield" in words and self.is_met(0.4):
            # What a closing can go on from.
            inner = ("with", variable, self.source(), (("yield",),) + self.block(deep + 1, words, 0.2))
            return (word, (inner,), self.block(deep, words, 0.6))
        if word == "guard":
            return (word, self.block(deep, words, 0.7), self.block(deep, words, 0.5))
        if word == "loop":
            rows = self.block(deep, words, 0.6)
            at = self.chance.randint(0, len(rows))
            return (word, rows[:at] + (("yield",),) + rows[at:])
        return (word,)

    def params(self):
        params = {}
        for _ in range(self.pick((0, 0, 1, 2))):
            kind = self.pick(("context", "token"))
            params[self.pick(CONTEXTS if kind == "context" else TOKENS)] = kind
        return tuple(params.items())

    def is_fit(self, piece):
        return is_book((self.variables, (piece,))) and count_of(self.variables, piece) <= self.most

    def piece(self, name, params=None):
        params = self.params() if params is None else params
        while True:
            # What uses slots comes to more if some of them hold something from the beginning.
            first = [self.statement(0, (word,)) for word in ("copy", "hold") if self.is_met(0.3)]
            rows = [self.statement(0) for _ in range(self.pick((1, 2, 2, 3)))]
            piece = (name, params, tuple(first + rows))
            if self.is_fit(piece):
                return piece

    def near(self, piece, name):
        """Another piece that is not far from this one: a statement has gone, come, or has been put into another one."""
        ways = [way for way, _ in statements_of((self.variables, (piece,)), piece[0])]
        while True:
            near = (name, piece[1], self.changed(piece[2], self.pick(ways)) if ways else (self.statement(0),))
            if self.is_fit(near):
                return near

    def changed(self, block, way):
        at = way[0]
        statement = block[at]
        if len(way) > 1:
            place = [number for number, part in enumerate(statement) if isinstance(part, tuple)][way[1]]
            inner = self.changed(statement[place], way[2:])
            rows = (statement[:place] + (inner,) + statement[place + 1:],)
        else:
            new = self.statement(len(way) // 2)
            rows = self.pick(((), (new,), (new, statement), (statement, new), (("guard", (statement,), ()),),
                              (("if", self.pick(self.variables), self.pick(self.numbers), (statement,), (statement,)),),
                              (statement, ("yield",)), (("guard", (statement,), (new,)),)))
        return block[:at] + rows + block[at + 1:]

    def program(self, book, name, many):
        """A program that makes the piece with that name once or more often, and looks at all that it holds behind."""
        values = self.numbers + (77, 88, 4321)
        params = [piece[1] for piece in book[1] if piece[0] == name][0]
        steps = [("copy", slot) for slot in OBSERVED if self.is_met(0.9)]
        for slot in TOKENS:
            held = (("set", self.pick(self.variables), self.pick(values)),
                    ("hold", slot, self.pick(self.variables), self.pick(values)))
            steps.extend(held if self.is_met(0.5) else [("guard", (("within", self.pick(OBSERVED), held),))])
        steps.extend([self.make(slot, name, params) for slot in ("m", "n")])
        steps.extend(self.steps(0, many, values, name, params))
        return tuple(steps) + self.looks()

    def make(self, slot, name, params):
        given = [self.pick(OBSERVED if kind == "context" else TOKENS) for _, kind in params]
        return ("make", slot, name, tuple(given))

    def steps(self, deep, many, values, name, params):
        return tuple([self.step(deep, values, name, params) for _ in range(many)])

    def step(self, deep, values, name, params):
        word = self.pick(("turn",) * 7 + ("set",) * 4 + ("drop", "reset", "hold", "copy", "show")
                         + ("within",) * 3 * (deep < 3) + ("make",) * self.is_met(0.2))
        if word == "turn":
            return ("guard", ((self.pick(("step", "step", "step", "close")), self.pick(("m", "m", "n"))),))
        if word == "set":
            return (word, self.pick(self.variables), self.pick(values))
        if word == "drop":
            return (word, self.pick(self.variables))
        if word == "hold":
            return (word, self.pick(TOKENS), self.pick(self.variables), self.pick(values))
        if word == "copy":
            return (word, self.pick(OBSERVED))
        if word == "make":
            return self.make(self.pick(("m", "n")), name, params)
        if word == "within":
            many = self.chance.randint(1, 4)
            return ("guard", (("within", self.pick(OBSERVED), self.steps(deep + 1, many, values, name, params)),))
        return ("guard", ((word, self.pick(TOKENS if word == "reset" else self.variables)),))

    def looks(self):
        """The steps that show each variable of each context, and try each token in each of them."""
        looks = [("guard", (("show", variable),)) for variable in self.variables]
        looks.extend([("guard", (("reset", slot),)) for slot in TOKENS])
        return tuple(looks) + tuple([("guard", (("within", slot, tuple(looks)),)) for slot in OBSERVED])


def renamed(piece, name):
    """The piece with other names for its slots."""
    other = {"c": "d", "d": "far", "s": "t", "t": "other"}

    def rows(block):
        return tuple([row(statement) for statement in block])

    def row(statement):
        parts = [rows(part) if isinstance(part, tuple) else part for part in statement]
        if parts[0] in ("hold", "reset", "copy", "within"):
            parts[1] = other[parts[1]]
        return tuple(parts)

    return (name, tuple([(other[slot], kind) for slot, kind in piece[1]]), rows(piece[2]))

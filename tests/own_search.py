"""A search of its own through all small programs, to compare with: it plays each of them in a room.

A handing tells what the params hold: None, a name of a context, or (CONTEXT, VARIABLE, OLD) of a token; a turn is
(WORD, CONTEXTS around from without inward, VALUES of contexts and variables, whether the tokens are used up ahead).
"""

import itertools

from stepwhere.contexts import Context, Token
from stepwhere.errors import Fails
from stepwhere.rooms import Room

UNSET = None


def values_for(numbers, number):
    """What variables are set to ahead of the turn with that number: each integer of the pieces, another one, or unset."""
    return (UNSET,) + tuple(numbers) + (100 + 10 * number,)


def handings(variables, params):
    """All that can be handed in: two contexts, tokens in the first one or in c, one thing twice."""
    options = []
    for _, kind in params:
        if kind == "context":
            options.append([None, "c", "d"])
        else:
            options.append([None] + [(place, variable, old) for place in ("first", "c") for variable in variables
                                     for old in (UNSET, 77)])
    for handing in itertools.product(*options):
        # The first context that is handed in is called c.
        if "d" not in handing or "c" in handing[:handing.index("d")]:
            yield handing


def turns(variables, numbers, handing, number):
    """All turns with that number that a small program can take."""
    inside = [("first",), ("c",)] + [("d",), ("c", "d")] * any(handing) + [("d", "c")] * ("d" in handing)
    has_token = any(isinstance(thing, tuple) for thing in handing)
    values = values_for(numbers, number)
    for word, around in itertools.product(("step", "close"), inside):
        seen = sorted({around[-1]} | {thing for thing in handing if isinstance(thing, str)})
        places = [(place, variable) for place in seen for variable in variables]
        for chosen in itertools.product(values, repeat=len(places)):
            # Two variables that are alike by chance tell less than two that are not.
            told = {place: value + at if value is not UNSET and value >= 100 else value
                    for at, (place, value) in enumerate(zip(places, chosen))}
            for is_spent in (False, True)[:1 + has_token]:
                yield word, around, told, is_spent


class Play:
    """One play; seen has for each turn the END, the events, and what is in all contexts and of all tokens behind it."""

    def __init__(self, book, name, handing, taken):
        self.room = Room(book)
        self.contexts = {"first": self.room.now, "c": Context(), "d": Context()}
        self.tokens = []
        things = [self.thing(thing) for thing in handing]
        self.piece = self.room.make(name, *things)
        self.seen = [self.turn(*turn) for turn in taken]

    def thing(self, thing):
        if thing is None or isinstance(thing, str):
            return self.contexts.get(thing)
        place, variable, old = thing
        self.assign(place, variable, old)
        self.tokens.append(Token(self.contexts[place], variable))
        return self.tokens[-1]

    def assign(self, place, variable, value):
        if value is UNSET:
            self.contexts[place].drop(variable)
        else:
            self.contexts[place][variable] = value

    def state(self):
        return ([self.contexts[place].pairs() for place in ("first", "c", "d")],
                [token.is_used for token in self.tokens])

    def turn(self, word, around, told, is_spent):
        for token in self.tokens:
            token.is_used = token.is_used or is_spent
        for (place, variable), value in told.items():
            self.assign(place, variable, value)
        ahead, begin = self.state(), len(self.room.log())
        deed = self.take
        for place in reversed(around):
            deed = self.inside(place, deed)
        end = deed(word)
        return end, tuple(self.room.log()[begin:]), self.state(), self.state() != ahead

    def inside(self, place, deed):
        return deed if place == "first" else lambda word: self.room.run(self.contexts[place], deed, word)

    def take(self, word):
        try:
            return getattr(self.piece, word)()
        except Fails as failure:
            return failure.word


def plays(variables, numbers, params, many):
    """All plays with that many turns: what is handed in, and the turns."""
    for handing in handings(variables, params):
        rows = [list(turns(variables, numbers, handing, number)) for number in range(many)]
        for taken in itertools.product(*rows):
            yield handing, taken


def found_of(book, name, numbers, params, many):
    """The fewest turns of these plays to each END, and to a LOUD turn (None)."""
    found = {}
    for handing, taken in plays(book[0], numbers, params, many):
        for number, (end, _, _, is_loud) in enumerate(Play(book, name, handing, taken).seen):
            for thing in [end] * (end != "over") + [None] * is_loud:
                found[thing] = min(found.get(thing, many), number + 1)
    return found


def turns_that_part(book, numbers, params, many):
    """The fewest turns of these plays that tell the pieces p and q apart, or None."""
    fewest = None
    for handing, taken in plays(book[0], numbers, params, many):
        one, other = Play(book, "p", handing, taken).seen, Play(book, "q", handing, taken).seen
        differing = [number for number in range(many) if one[number] != other[number]]
        if differing and (fewest is None or differing[0] + 1 < fewest):
            fewest = differing[0] + 1
            if fewest == 1:
                return fewest
    return fewest

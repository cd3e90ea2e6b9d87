"""Turns of pieces for all programs at once.

A turn here is that of many programs: what a piece finds in it is decided only when the piece asks for it, and both
ways are taken one behind the other. A value that a program chose and that is not decided is a mark, an integer from
FIRST_MARK on: two marks may be any two values, but for those that are barred.
"""

from stepwhere.errors import Fails
from stepwhere.rooms import Within

UNSET = -1
FIRST_MARK = 10000


class Spot:
    """A context in a turn: that of a program, with a number from 0 on, or a piece's own one, with one below 0.

    Of a program's it has what the piece made of the variables, of a piece's own one what each variable is.
    """

    def __init__(self, number):
        self.number = number
        self.told = {}
        self.is_busy = False


class Memo:
    """A token in a turn: one that a program handed in, with a number from 0 on, or a piece's own one, with -1."""

    def __init__(self, spot, variable, old, number=-1):
        self.spot = spot
        self.variable = variable
        self.old = old
        self.number = number
        self.is_used = False


class World:
    """What is decided about the programs of one turn; what pieces ask is decided as taken has it, then by no."""

    def __init__(self, barred, taken):
        self.barred = {FIRST_MARK + number: list(values) for number, values in enumerate(barred)}
        self.taken = list(taken)
        self.at = 0
        self.decided = {}
        self.given = {}
        self.in_use = {}
        self.spent = {}

    def choose(self):
        """The next decision."""
        if self.at == len(self.taken):
            self.taken.append(False)
        self.at += 1
        return self.taken[self.at - 1]

    def worth(self, value):
        """What is known of a value by now."""
        return self.decided.get(value, value)

    def is_value(self, value, number):
        """Whether a value, as far as it is known by now, is that number, or unset."""
        if value < FIRST_MARK:
            return value == number
        if number in self.barred[value]:
            return False
        if self.choose():
            self.decided[value] = number
            return True
        self.barred[value].append(number)
        return False

    def value_given(self, place, variable):
        """What a program made of a variable of the context with that number ahead of the turn."""
        key = (place, variable)
        if key not in self.given:
            mark = FIRST_MARK + len(self.barred)
            self.barred[mark] = []
            self.given[key] = mark
        return self.given[key]

    def is_in_use(self, place):
        """Whether the context with that number, which is not the current one, is in use in the turn."""
        if place not in self.in_use:
            self.in_use[place] = self.choose()
        return self.in_use[place]

    def is_spent(self, number):
        """Whether a program used its token with that number ahead of the turn."""
        if number not in self.spent:
            self.spent[number] = self.choose()
        return self.spent[number]


class Scene:
    """What a room is for one piece in a turn; the context with the number place is the current one there."""

    def __init__(self, world, variables, place):
        self.world = world
        self.variables = variables
        self.events = []
        self.used = {}
        self.spots = {}
        self.own_spots = 0
        self.now = self.spot_at(place)
        self.now.is_busy = True

    def spot_at(self, place):
        """The context of the program with that number."""
        if place not in self.spots:
            self.spots[place] = Spot(place)
        return self.spots[place]

    def new_spot(self):
        """A context of the piece's own."""
        self.own_spots += 1
        return Spot(-self.own_spots)

    def value_in(self, spot, variable):
        """What a variable is in a context now."""
        if variable in spot.told:
            return self.world.worth(spot.told[variable])
        return self.world.worth(self.world.value_given(spot.number, variable))

    def is_changed(self, place, variable):
        """Whether the piece made something of a variable of a context of the program that it met."""
        return variable in self.spots[place].told

    def put(self, variable, value):
        """The variable becomes that value."""
        self.now.told[variable] = value

    def drop(self, variable):
        """The variable becomes unset."""
        self.now.told[variable] = UNSET

    def has_value(self, variable, number):
        """Whether the variable is set, and to this very number."""
        return self.world.is_value(self.value_in(self.now, variable), number)

    def read(self, variable):
        """What the variable is."""
        value = self.value_in(self.now, variable)
        if self.world.is_value(value, UNSET):
            raise Fails("unset")
        return value

    def show(self, variable):
        """What the variable is comes into the events."""
        self.events.append(("shown", variable, self.read(variable)))

    def hold(self, variable, value):
        """A token that remembers what the variable was before it became that value."""
        token = Memo(self.now, variable, self.value_in(self.now, variable))
        self.now.told[variable] = value
        return token

    def reset(self, token):
        """The variable of the token becomes what the token remembers."""
        if token.is_used or (token.number >= 0 and self.world.is_spent(token.number)):
            raise Fails("used")
        if token.spot.number != self.now.number:
            raise Fails("elsewhere")
        self.now.told[token.variable] = token.old
        token.is_used = True
        if token.number >= 0:
            self.used[token.number] = True

    def copy(self):
        """A new context of the piece's own, like the current one."""
        spot = self.new_spot()
        for variable in self.variables:
            spot.told[variable] = self.value_in(self.now, variable)
        return spot

    def within(self, spot):
        """An object for one with statement, whose block runs with that context as the current one."""
        if spot.number >= 0 and not spot.is_busy:
            spot.is_busy = self.world.is_in_use(spot.number)
        return Within(self, spot)

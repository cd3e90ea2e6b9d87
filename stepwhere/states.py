"""States of pieces between two turns, as rows of integers: how they are written down, and taken up again.

Two states that no program can tell apart because they are alike but for the numbers of contexts, tokens and marks have
the same row; so have two in which what is left to be done, and what it uses, is the same.
"""

from stepwhere.machine import STANDS, Machine, frames_at
from stepwhere.pieces import statements_in
from stepwhere.worlds import FIRST_MARK, Memo

# What an integer in a row means; from -1 (unset) to 99 it is a value, from FIRST_MARK on a mark.
NOTHING = -2
USED = -3
LOST = -4
HELD = -5
OWN_SPOT = 500
FIRST_PLACE = 1000
FIRST_GIVEN = 5000


class Stand:
    """Where a piece can stand; rest is all that is left to be done from there, slots are those that it reads."""

    def __init__(self, number, block, way, rest):
        self.number = number
        self.block = block
        self.way = way
        self.contexts = slots_read(rest, "within")
        self.tokens = slots_read(rest, "reset")

    def begin(self, slots):
        """A machine that stands there, or is fresh, without the tokens of what is around."""
        machine = Machine(self.block, slots)
        if self.way is not None:
            machine.phase = STANDS
            machine.frames = frames_at(self.block, self.way)
        return machine


def rest_at(block, way):
    """What is left to be done from a yield on, or from the beginning (None): the same for the same behaviour."""
    if way is None:
        return (("fresh", block, (), ()),)
    rest = []
    for frame in frames_at(block, way):
        left = frame.block[frame.at:]
        again = frame.block if frame.word == "loop" else ()
        # What is around a block matters only if it is asked for at its end, in a failure or by a "leave".
        word = frame.word if frame.word in ("loop", "with") or frame.rescue is not None else ""
        if word != "" or left:
            rest.append((word, left, again, frame.rescue))
    return tuple(rest)


def slots_read(rest, word):
    """The slots, ascending, in the statements with that word among all that are left."""
    slots = {}
    for _, block, again, rescue in rest:
        for part in (block, again, rescue or ()):
            for way, statement in statements_in(part, ()):
                if statement[0] == word:
                    slots[statement[1]] = True
    return sorted(slots)


class Layout:
    """Where one piece can stand; rests has what is left there, of other pieces too, at the numbers of the stands."""

    def __init__(self, piece, rests, may_share):
        self.by_way = {}
        self.by_number = {}
        block = piece[2]
        yields = [at for at, statement in statements_in(block, ()) if statement == ("yield",)]
        for way in [None] + yields:
            rest = rest_at(block, way)
            if not may_share or rest not in rests:
                rests.append(rest)
            number = rests.index(rest) if may_share else len(rests) - 1
            self.by_way[way] = Stand(number, block, way, rest)
            self.by_number[number] = self.by_way[way]

    def stand_of(self, machine):
        """Where the machine stands."""
        return self.by_way[machine.here() if machine.phase == STANDS else None]


class Writer:
    """Writes down where a machine stands, and what it holds that is used from there on."""

    def __init__(self, scene, machine, stand):
        self.scene = scene
        self.machine = machine
        self.codes = [stand.number]
        self.own_spots = {}
        for slot in stand.contexts:
            self.write_spot(slot)
        for frame in machine.frames:
            if frame.word == "with":
                self.write_token(frame.token)
        for slot in stand.tokens:
            if slot in machine.slots:
                self.write_token(machine.slots[slot])
            else:
                self.codes.append(NOTHING)

    def write_spot(self, slot):
        """What a slot for contexts holds; of a context of the piece's own each variable."""
        if slot not in self.machine.slots:
            self.codes.append(NOTHING)
            return
        spot = self.machine.slots[slot]
        if spot.number >= 0:
            self.codes.append(FIRST_PLACE + spot.number)
            return
        self.own_spots[spot.number] = OWN_SPOT + len(self.own_spots)
        self.codes.append(self.own_spots[spot.number])
        for variable in self.scene.variables:
            self.codes.append(self.scene.value_in(spot, variable))

    def write_token(self, token):
        """A token; nothing but a failure can come of one whose context no slot holds any more."""
        world = self.scene.world
        number = token.spot.number
        if token.is_used or (token.number >= 0 and world.spent.get(token.number, False)):
            self.codes.append(USED)
        elif token.number >= 0:
            self.codes.append(FIRST_GIVEN + token.number)
        elif number < 0 and number not in self.own_spots:
            self.codes.append(LOST)
        else:
            place = FIRST_PLACE + number if number >= 0 else self.own_spots[number]
            self.codes.extend([HELD, place, self.scene.variables.index(token.variable), world.worth(token.old)])


def codes_of(layout, scene, machine):
    """The row of a machine that is not over, the numbers as they were in the turn ahead."""
    return Writer(scene, machine, layout.stand_of(machine)).codes


class Reading:
    """Takes up what a row tells; tokens are those of the program, as (place, variable, old)."""

    def __init__(self, scene, codes, tokens):
        self.scene = scene
        self.codes = codes
        self.at = 1
        self.tokens = tokens
        self.own_spots = {}
        self.memos = {}

    def take(self):
        """The next integer."""
        self.at += 1
        return self.codes[self.at - 1]

    def take_spot(self):
        """The context that comes next, or None."""
        code = self.take()
        if code == NOTHING:
            return None
        if code >= FIRST_PLACE:
            return self.scene.spot_at(code - FIRST_PLACE)
        spot = self.scene.new_spot()
        self.own_spots[code] = spot
        for variable in self.scene.variables:
            spot.told[variable] = self.take()
        return spot

    def take_token(self):
        """The token that comes next, or None."""
        code = self.take()
        if code == NOTHING:
            return None
        if code >= FIRST_GIVEN:
            return self.given_token(code - FIRST_GIVEN)
        if code != HELD:
            # Its context is one that is never the current one.
            token = Memo(self.scene.new_spot(), "", 0)
            token.is_used = code == USED
            return token
        place = self.take()
        spot = self.scene.spot_at(place - FIRST_PLACE) if place >= FIRST_PLACE else self.own_spots[place]
        variable = self.scene.variables[self.take()]
        return Memo(spot, variable, self.take())

    def given_token(self, number):
        """The token of the program with that number, one and the same in all slots."""
        if number not in self.memos:
            place, variable, old = self.tokens[number]
            self.memos[number] = Memo(self.scene.spot_at(place), variable, old, number)
        return self.memos[number]


def machine_of(layout, scene, codes, tokens):
    """The machine that a row tells, in a scene where nothing has happened."""
    reading = Reading(scene, codes, tokens)
    stand = layout.by_number[codes[0]]
    slots = {}
    for slot in stand.contexts:
        slots[slot] = reading.take_spot()
    machine = stand.begin(slots)
    for frame in machine.frames:
        if frame.word == "with":
            frame.token = reading.take_token()
    for slot in stand.tokens:
        slots[slot] = reading.take_token()
    empty = [slot for slot in slots if slots[slot] is None]
    for slot in empty:
        del slots[slot]
    return machine


class Renaming:
    """Numbers in the order in which they are met, for contexts, tokens and marks; each dict is from old to new."""

    def __init__(self):
        self.new_places = {}
        self.new_tokens = {}
        self.new_marks = {}

    def code(self, code):
        """What the integer is with the new numbers."""
        if code < FIRST_PLACE:
            return code
        if code >= FIRST_MARK:
            return FIRST_MARK + self.new_marks.setdefault(code - FIRST_MARK, len(self.new_marks))
        if code >= FIRST_GIVEN:
            return FIRST_GIVEN + self.new_tokens.setdefault(code - FIRST_GIVEN, len(self.new_tokens))
        return FIRST_PLACE + self.new_places.setdefault(code - FIRST_PLACE, len(self.new_places))


class State:
    """What one piece, or each of two, is between two turns; key tells it all, renaming is from the turn ahead."""

    def __init__(self, rows, tokens, barred, variables):
        self.renaming = Renaming()
        self.rows = [[self.renaming.code(code) for code in row] for row in rows]
        self.tokens = []
        for number in list(self.renaming.new_tokens):
            place, variable, old = tokens[number]
            place = self.renaming.code(FIRST_PLACE + place) - FIRST_PLACE
            self.tokens.append((place, variable, self.renaming.code(old)))
        self.barred = [sorted(barred[FIRST_MARK + mark]) for mark in self.renaming.new_marks]
        self.places = len(self.renaming.new_places)
        self.key = self.key_with(variables)

    def key_with(self, variables):
        """All that is told here, in one tuple of integers."""
        codes = []
        for row in self.rows:
            codes.extend(row)
        for place, variable, old in self.tokens:
            codes.extend([place, variables.index(variable), old])
        for values in self.barred:
            codes.extend([NOTHING, *values])
        return tuple(codes)

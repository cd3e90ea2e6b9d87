"""The search through all that programs can do with one piece, or with two, turn by turn."""

from stepwhere.machine import OVER
from stepwhere.pieces import kinds_of
from stepwhere.states import Layout, State, codes_of, machine_of
from stepwhere.worlds import FIRST_MARK, Memo, Scene, World

KINDS_OF_TURN = ("step", "close")


class Handing:
    """What a program hands to the params of a piece: for each a slot of it, or None where it holds nothing.

    A slot is ("context", NUMBER) or ("token", NUMBER); a token is a pair of the number of its context and a variable.
    """

    def __init__(self, slots, places, tokens):
        self.slots = slots
        self.places = places
        self.tokens = tokens

    def hands_context(self):
        """Whether one of the slots holds a context."""
        return any([slot is not None and slot[0] == "context" for slot in self.slots])


def with_one_more(handing, kind, variables):
    """The handings that come of this one for one param more."""
    slots, places, tokens = handing.slots, handing.places, handing.tokens
    found = [Handing(slots + [None], places, tokens)]
    if kind == "context":
        for place in range(places + 1):
            found.append(Handing(slots + [(kind, place)], max(places, place + 1), tokens))
        return found
    for number in range(len(tokens)):
        found.append(Handing(slots + [(kind, number)], places, tokens))
    for place in range(places + 1):
        for variable in variables:
            more = tokens + [(place, variable)]
            found.append(Handing(slots + [(kind, len(tokens))], max(places, place + 1), more))
    return found


def handings(kinds, variables):
    """All that programs can hand to params of these kinds, the numbers left aside."""
    found = [Handing([], 0, [])]
    for kind in kinds:
        found = [more for handing in found for more in with_one_more(handing, kind, variables)]
    return found


class Turn:
    """One turn of each piece in the same world."""

    def __init__(self, kind, place, world, scenes, machines):
        self.kind = kind
        self.place = place
        self.world = world
        self.scenes = scenes
        self.machines = machines
        self.outcomes = []
        for scene, machine in zip(scenes, machines):
            end = machine.take_step(scene) if kind == "step" else machine.take_close(scene)
            self.outcomes.append(end)


def following(taken):
    """The decisions of the next world behind that with these, or None behind the last one."""
    left = list(taken)
    while left and left[-1]:
        left.pop()
    if not left:
        return None
    return left[:-1] + [True]


class Team:
    """One piece or two comparable ones, which programs step and close all alike."""

    def __init__(self, variables, pieces):
        self.variables = variables
        self.pieces = pieces
        rests = []
        # One piece by itself is asked which statements it begins: there it matters where it stands, not only for what.
        self.layouts = [Layout(piece, rests, len(pieces) > 1) for piece in pieces]

    def begin(self, handing):
        """The state of the fresh pieces."""
        world = World([[] for _ in handing.tokens], [])
        tokens = [(place, variable, FIRST_MARK + number) for number, (place, variable) in enumerate(handing.tokens)]
        rows = []
        for piece, layout in zip(self.pieces, self.layouts):
            # The current context is none that the program hands over.
            scene = Scene(world, self.variables, handing.places)
            machine = layout.by_way[None].begin(slots_handed(scene, piece, handing, tokens))
            rows.append(codes_of(layout, scene, machine))
        return State(rows, tokens, world.barred, self.variables)

    def turn(self, state, kind, place, taken):
        """A turn in the context with that number, of the world with these decisions."""
        world = World(state.barred, taken)
        scenes = [Scene(world, self.variables, place) for _ in self.pieces]
        machines = []
        for layout, scene, row in zip(self.layouts, scenes, state.rows):
            machines.append(machine_of(layout, scene, row, state.tokens))
        return Turn(kind, place, world, scenes, machines)

    def turns(self, state):
        """All turns behind a state; the context with the number behind those in the state is any other one."""
        found = []
        for kind in KINDS_OF_TURN:
            for place in range(state.places + 1):
                taken = []
                while taken is not None:
                    turn = self.turn(state, kind, place, taken)
                    found.append(turn)
                    taken = following(turn.world.taken)
        return found

    def state_behind(self, state, turn):
        """The state behind a turn that ended alike for all, or None if nothing more can be told of the pieces."""
        # How a turn ended tells whether a piece is over: if one is, so is the other.
        if turn.machines[0].phase == OVER:
            return None
        rows = []
        for layout, scene, machine in zip(self.layouts, turn.scenes, turn.machines):
            rows.append(codes_of(layout, scene, machine))
        if len(rows) > 1 and rows[0] == rows[1]:
            return None
        tokens = [(place, variable, turn.world.worth(old)) for place, variable, old in state.tokens]
        return State(rows, tokens, turn.world.barred, self.variables)


def slots_handed(scene, piece, handing, tokens):
    """The slots of a fresh piece to which this is handed."""
    memos = []
    for number, (place, variable, old) in enumerate(tokens):
        memos.append(Memo(scene.spot_at(place), variable, old, number))
    slots = {}
    for (slot, kind), handed in zip(piece[1], handing.slots):
        if handed is not None and kind == "context":
            slots[slot] = scene.spot_at(handed[1])
        elif handed is not None:
            slots[slot] = memos[handed[1]]
    return slots


class Search:
    """The states that were met, in the order of the turns that lead to them; each with the state and turn ahead."""

    def __init__(self, team):
        self.team = team
        self.states = []
        self.ahead = []
        self.keys_met = {}
        for handing in handings(kinds_of(team.pieces[0]), team.variables):
            self.meet(team.begin(handing), (handing, None))

    def meet(self, state, ahead):
        """Keeps a state that is met for the first time."""
        if state.key not in self.keys_met:
            self.keys_met[state.key] = True
            self.states.append(state)
            self.ahead.append(ahead)

    def go_on(self, number, turn):
        """Keeps what is behind a turn that was taken in the state with that number."""
        state = self.team.state_behind(self.states[number], turn)
        if state is not None:
            self.meet(state, (number, turn))

"""Programs that are told: what a program does so that a path of turns is taken by the piece that it makes."""

from stepwhere.forms import LETTERS
from stepwhere.worlds import FIRST_MARK, UNSET

# No piece has integers from here on: a value that nothing was asked of is such a one.
FIRST_FREE = 100
MANY_FREE = 9900
PIECE_SLOT = "p"


def slot_at(letter, number):
    """A slot: the letter, and behind it the number in letters."""
    told = ""
    while number >= 0:
        told = LETTERS[number % 26] + told
        number = number // 26 - 1
    return letter + told


class Ahead:
    """One turn as the program tells it, by the numbers of contexts, tokens and marks in the whole of the program."""

    def __init__(self, turn, place):
        self.kind = turn.kind
        self.place = place
        self.puts = []
        self.in_use = []
        self.spent = []
        self.has_failed = turn.outcomes[0][0] == "failed"


class Story:
    """The turns of a path one behind the other, as one program sees them.

    The lists places, tokens and marks tell what the numbers of the state that was come to mean in the whole program.
    """

    def __init__(self, handing):
        self.handing = handing
        self.many_places = handing.places
        self.many_marks = len(handing.tokens)
        self.places = []
        self.tokens = []
        self.marks = []
        self.places_there = []
        self.worths = {}
        self.told = []

    def come_to(self, state, marks, places):
        """The state is the one behind what was told so far; marks and places are those of the turn ahead of it."""
        renaming = state.renaming
        self.marks = [marks[mark] for mark in renaming.new_marks]
        self.places = [places[place] for place in renaming.new_places]
        self.tokens = [self.tokens[token] for token in renaming.new_tokens]

    def other_place(self):
        """The first context of which nothing is known in the state, perhaps a new one."""
        place = 0
        while place in self.places:
            place += 1
        self.many_places = max(self.many_places, place + 1)
        return place

    def take(self, turn):
        """One turn more; the numbers of its marks and contexts in the whole program."""
        places = self.places + [self.other_place()] if turn.place == len(self.places) else list(self.places)
        marks = list(self.marks)
        ahead = Ahead(turn, places[turn.place])
        world = turn.world
        for (place, variable), mark in world.given.items():
            marks.append(self.many_marks)
            ahead.puts.append((places[place], variable, self.many_marks))
            self.many_marks += 1
        for mark, value in world.decided.items():
            self.worths[marks[mark - FIRST_MARK]] = value
        ahead.in_use = [places[place] for place in world.in_use if world.in_use[place]]
        ahead.spent = [self.tokens[token] for token in world.spent if world.spent[token]]
        self.told.append(ahead)
        self.places_there = places
        return marks, places

    def decide(self):
        """Each mark of which nothing more was asked stands for a value of its own."""
        left = [mark for mark in range(self.many_marks) if mark not in self.worths]
        for number, mark in enumerate(left):
            self.worths[mark] = FIRST_FREE + number % MANY_FREE


def story_of(search, number, last):
    """The story of the path to the state with that number and of a last turn there."""
    path = [(number, last)]
    while search.ahead[number][1] is not None:
        path.append(search.ahead[number])
        number = search.ahead[number][0]
    handing = search.ahead[number][0]
    story = Story(handing)
    story.tokens = list(range(len(handing.tokens)))
    marks = list(range(len(handing.tokens)))
    places = list(range(handing.places))
    for number, turn in reversed(list(path)):
        story.come_to(search.states[number], marks, places)
        marks, places = story.take(turn)
    story.decide()
    return story


class Teller:
    """Writes the program of a story.

    The first context of the play is that with the number 0, unless a context is handed over: then it is none of them,
    as no slot can hold it, and nothing else is in use where it is the current one.
    """

    def __init__(self, story):
        self.story = story
        self.has_first = not story.handing.hands_context()

    def slot_of(self, place):
        """The slot that holds a context, or None of the first context."""
        if self.has_first:
            return slot_at("c", place - 1) if place > 0 else None
        return slot_at("c", place)

    def inside(self, place, steps):
        """The steps as they are done with that context as the current one."""
        slot = self.slot_of(place)
        return tuple(steps) if slot is None or not steps else (("within", slot, tuple(steps)),)

    def put(self, variable, mark):
        """The step by which a variable becomes what the mark stands for."""
        value = self.story.worths[mark]
        return ("drop", variable) if value == UNSET else ("set", variable, value)

    def beginning(self, name):
        """All that is ahead of the first turn: contexts, tokens and the piece called name."""
        slots = [self.slot_of(place) for place in range(self.story.many_places)]
        steps = [("copy", slot) for slot in slots if slot is not None]
        for number, (place, variable) in enumerate(self.story.handing.tokens):
            steps.extend(self.inside(place, [self.put(variable, number), ("hold", slot_at("t", number), variable, 0)]))
        handed = [self.slot_handed(slot, number) for number, slot in enumerate(self.story.handing.slots)]
        steps.append(("make", PIECE_SLOT, name, tuple(handed)))
        return steps

    def slot_handed(self, slot, number):
        """The slot that is handed to the param with that number; one that holds nothing for None."""
        if slot is None:
            return slot_at("n", number)
        kind, which = slot
        return self.slot_of(which) if kind == "context" else slot_at("t", which)

    def turn(self, ahead, is_last):
        """One turn, and what the program does for it; the play goes on behind it unless it is the last one."""
        steps = []
        for token in ahead.spent:
            steps.extend(self.inside(self.story.handing.tokens[token][0], [("reset", slot_at("t", token))]))
        for place in range(self.story.many_places):
            rows = [self.put(variable, mark) for at, variable, mark in ahead.puts if at == place]
            steps.extend(self.inside(place, rows))
        inner = ((ahead.kind, PIECE_SLOT),)
        if ahead.has_failed and not is_last:
            inner = (("guard", inner),)
        inner = self.inside(ahead.place, inner)
        for place in ahead.in_use:
            inner = self.inside(place, inner)
        return steps + list(inner)

    def sight(self, difference):
        """The steps by which the program sees a difference behind the last turn."""
        word, number = difference[0], difference[1]
        if word == "variable":
            return self.inside(self.story.places_there[number], [("show", difference[2])])
        token = self.story.tokens[number]
        return self.inside(self.story.handing.tokens[token][0], [("reset", slot_at("t", token))])

    def program(self, name, difference):
        """The whole program, which makes the piece called name, and shows the difference behind the last turn."""
        steps = self.beginning(name)
        turns = self.story.told
        for number, ahead in enumerate(turns):
            steps.extend(self.turn(ahead, difference is None and number == len(turns) - 1))
        if difference is not None:
            steps.extend(self.sight(difference))
        return tuple(steps)


def program_of(search, number, turn, difference):
    """The program of the path to the state with that number, of a turn there, and of what is seen behind it."""
    return Teller(story_of(search, number, turn)).program(search.team.pieces[0][0], difference)

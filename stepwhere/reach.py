"""What can come of a piece in any program: how turns end, which statements are begun, whether anything is changed."""

from stepwhere.alike import need_bounds
from stepwhere.pieces import piece_of, statements_in
from stepwhere.search import Search, Team
from stepwhere.telling import program_of


def end_of(turn):
    """The END of a turn of one piece."""
    return turn.outcomes[0][-1]


def is_loud(turn, variables):
    """Whether a program can have seen, behind the turn, that the piece changed anything in it."""
    scene = turn.scenes[0]
    if scene.used:
        return True
    for place in list(scene.spots):
        for variable in variables:
            if scene.is_changed(place, variable):
                ahead = turn.world.worth(turn.world.value_given(place, variable))
                if scene.value_in(scene.spot_at(place), variable) != ahead:
                    return True
    return False


class Survey:
    """All that can come of a piece, each with the first turn of which it comes: a state's number and the turn."""

    def __init__(self, variables, piece):
        self.search = Search(Team(variables, (piece,)))
        self.by_end = {}
        self.by_way = {}
        self.loud = None
        number = 0
        while number < len(self.search.states):
            turns = self.search.team.turns(self.search.states[number])
            for turn in turns:
                self.note(number, turn, variables)
                self.search.go_on(number, turn)
            number += 1

    def note(self, number, turn, variables):
        """Keeps what comes of a turn for the first time."""
        self.by_end.setdefault(end_of(turn), (number, turn))
        for way in turn.machines[0].begun:
            self.by_way.setdefault(way, (number, turn))
        if self.loud is None and is_loud(turn, variables):
            self.loud = (number, turn)

    def program(self, found):
        """The program that leads to what was found."""
        number, turn = found
        return program_of(self.search, number, turn, None)


def survey_of(book, name):
    """The survey of the piece of the book that is called name."""
    piece = piece_of(book, name)
    need_bounds(book, [piece])
    return Survey(book[0], piece)


def ends(book, name):
    """A dict from the ENDs that can come of a piece, ascending, to programs in which they come."""
    survey = survey_of(book, name)
    return {end: survey.program(survey.by_end[end]) for end in sorted(survey.by_end)}


def reached(book, name):
    """A dict from the ways of the statements that can be begun, as they are met, to programs in which they are."""
    survey = survey_of(book, name)
    ways = [way for way, statement in statements_in(piece_of(book, name)[2], ())]
    return {way: survey.program(survey.by_way[way]) for way in ways if way in survey.by_way}


def noise(book, name):
    """A program of which the last turn changes something, or None of a piece that never does."""
    survey = survey_of(book, name)
    return None if survey.loud is None else survey.program(survey.loud)


def is_quiet(book, name):
    """Whether no turn of a piece changes anything that a program can see."""
    return survey_of(book, name).loud is None

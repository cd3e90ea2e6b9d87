"""What programs see of two pieces behind the same turns, and the shortest program that tells them apart."""

from stepwhere.search import Search, Team
from stepwhere.telling import program_of


def events_of(turn, number):
    """The events of a turn of the piece with that number, its end too."""
    events = list(turn.scenes[number].events)
    told = [(word, variable, turn.world.worth(value)) for word, variable, value in events]
    return told + [turn.outcomes[number]]


def changed_in(turn, variables):
    """The pairs of a context's number and a variable of which one of the pieces made something."""
    pairs = []
    for scene in turn.scenes:
        for place in scene.spots:
            for variable in variables:
                if scene.is_changed(place, variable) and (place, variable) not in pairs:
                    pairs.append((place, variable))
    return pairs


def difference_in(turn, variables):
    """What tells two pieces apart behind a turn: ("events",), ("variable", NUMBER, VAR), ("token", NUMBER) or None."""
    if events_of(turn, 0) != events_of(turn, 1):
        return ("events",)
    one, other = turn.scenes
    for place, variable in changed_in(turn, variables):
        if one.value_in(one.spot_at(place), variable) != other.value_in(other.spot_at(place), variable):
            return ("variable", place, variable)
    for number in [*one.used, *other.used]:
        if number not in one.used or number not in other.used:
            return ("token", number)
    return None


def parting_of(variables, piece, other):
    """A program with as few turns as any that tells two comparable pieces apart, or None of alike ones."""
    if piece[1:] == other[1:]:
        return None
    search = Search(Team(variables, (piece, other)))
    number = 0
    while number < len(search.states):
        turns = search.team.turns(search.states[number])
        for turn in turns:
            difference = difference_in(turn, variables)
            if difference is not None:
                seen = difference if difference[0] != "events" else None
                return program_of(search, number, turn, seen)
            search.go_on(number, turn)
        number += 1
    return None


def are_alike_pieces(variables, piece, other):
    """Whether no program tells two comparable pieces apart."""
    return parting_of(variables, piece, other) is None

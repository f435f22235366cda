"""Rooms: how many letters are under way at most."""

from uprightletters.cuts import cuts
from uprightletters.runs import check_run
from uprightletters.steps import first_cut, last_cut, letters_under_way, open_doings, shifted


def rooms_of(talk, run):
    """The rooms of a run."""
    check_run(talk, run)
    most = 0
    cut = first_cut(talk)
    for doing in run:
        cut = shifted(talk, cut, doing, 1)
        most = max(most, len(letters_under_way(talk, cut)))
    return most


def rooms(talk):
    """The fewest rooms of a run of a talk."""
    return fewest_rooms(talk)[first_cut(talk)]


def room_run(talk):
    """A run with as few rooms as can be."""
    fewest = fewest_rooms(talk)
    cut = first_cut(talk)
    run = []
    while len(run) < len(talk.places):
        doing = best_doing(talk, cut, fewest)
        run.append(doing)
        cut = shifted(talk, cut, doing, 1)
    return tuple(run)


def best_doing(talk, cut, fewest):
    """The first doing that can be done at a cut and leads on with as few rooms as can be."""
    return min([(fewest[shifted(talk, cut, doing, 1)], doing) for doing in open_doings(talk, cut)])[1]


def fewest_rooms(talk):
    """For each cut the fewest rooms of a way from it to the one at which all is done."""
    fewest = {last_cut(talk): 0}
    found = list(cuts(talk))
    # The cuts next to a cut are greater, so their rooms are found ahead of its own.
    for cut in reversed(found[:-1]):
        later = min([fewest[shifted(talk, cut, doing, 1)] for doing in open_doings(talk, cut)])
        fewest[cut] = max(later, len(letters_under_way(talk, cut)))
    return fewest

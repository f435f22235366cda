"""Runs: all doings of a talk, one behind another."""

from uprightletters.checks import is_doing, is_index
from uprightletters.cuts import cuts
from uprightletters.errors import BadNumber, BadRun
from uprightletters.steps import can_be_done, first_cut, last_cut, open_doings, shifted


def is_run(talk, value):
    """Whether a value is a run of a talk."""
    return is_filled(talk, value) and wrong_place(talk, value) is None


def check_run(talk, value):
    """See that a value is a run of a talk."""
    if not is_filled(talk, value):
        raise BadRun(None)
    place = wrong_place(talk, value)
    if place is not None:
        raise BadRun(place)


def is_filled(talk, value):
    """Whether a value is a tuple of as many items as a talk has doings."""
    return isinstance(value, tuple) and len(value) == len(talk.places)


def wrong_place(talk, items):
    """The number of the first item that is no doing that can be done there, or None."""
    cut = first_cut(talk)
    for place, item in enumerate(items):
        if not is_doing(item, talk.many) or not can_be_done(talk, cut, item):
            return place
        cut = shifted(talk, cut, item, 1)
    return None


def runs(talk):
    """A generator of all runs of a talk, ascending."""
    start = ()
    while start is not None:
        run = least_run(talk, start)
        yield run
        start = next_start(talk, run)


def least_run(talk, start):
    """The first run that begins with some doings."""
    run = list(start)
    cut = first_cut(talk)
    for doing in start:
        cut = shifted(talk, cut, doing, 1)
    while len(run) < len(talk.places):
        doing = open_doings(talk, cut)[0]
        run.append(doing)
        cut = shifted(talk, cut, doing, 1)
    return tuple(run)


def next_start(talk, run):
    """What the next run has in common with a run, and the doing behind it, or None if there is no next one."""
    cut = last_cut(talk)
    for place in reversed(range(len(run))):
        cut = shifted(talk, cut, run[place], -1)
        later = [doing for doing in open_doings(talk, cut) if doing > run[place]]
        if len(later) > 0:
            return run[:place] + (later[0],)
    return None


def run_counts(talk):
    """For each cut how many ways lead from it to the one at which all is done."""
    counts = {last_cut(talk): 1}
    found = list(cuts(talk))
    # The cuts next to a cut are greater, so their ways are counted ahead of its own.
    for cut in reversed(found[:-1]):
        counts[cut] = sum([counts[shifted(talk, cut, doing, 1)] for doing in open_doings(talk, cut)])
    return counts


def count_runs(talk):
    """How many runs a talk has."""
    return run_counts(talk)[first_cut(talk)]


def run_at(talk, number):
    """The run with a number."""
    counts = run_counts(talk)
    cut = first_cut(talk)
    if not is_index(number, counts[cut]):
        raise BadNumber(number)
    run = []
    left = number
    while len(run) < len(talk.places):
        doing, left = step_at(talk, cut, counts, left)
        run.append(doing)
        cut = shifted(talk, cut, doing, 1)
    return tuple(run)


def step_at(talk, cut, counts, number):
    """The first doing of the way with a number from a cut, and the number of that way among those with it."""
    doings = open_doings(talk, cut)
    many = [counts[shifted(talk, cut, doing, 1)] for doing in doings]
    at = 0
    left = number
    while left >= many[at]:
        left -= many[at]
        at += 1
    return doings[at], left


def run_number(talk, run):
    """The number of a run."""
    check_run(talk, run)
    counts = run_counts(talk)
    cut = first_cut(talk)
    number = 0
    for doing in run:
        lesser = [other for other in open_doings(talk, cut) if other < doing]
        number += sum([counts[shifted(talk, cut, other, 1)] for other in lesser])
        cut = shifted(talk, cut, doing, 1)
    return number

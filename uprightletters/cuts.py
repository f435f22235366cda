"""Cuts: how much of each row is done."""

from uprightletters.checks import is_index
from uprightletters.errors import BadCut, BadNumber
from uprightletters.steps import is_done, letters_under_way, open_doings, shifted


def is_cut(talk, value):
    """Whether a value is a cut of a talk."""
    if not isinstance(value, tuple) or len(value) != len(talk.rows):
        return False
    for count, row in zip(value, talk.rows):
        if not is_index(count, len(row) + 1):
            return False
    return is_closed(talk, value)


def is_closed(talk, counts):
    """Whether each letter that is got among so many first doings is sent among them."""
    for letter in range(talk.many):
        if is_done(talk, counts, ("get", letter)) and not is_done(talk, counts, ("send", letter)):
            return False
    return True


def check_cut(talk, value):
    """See that a value is a cut of a talk."""
    if not is_cut(talk, value):
        raise BadCut(value)


def cuts(talk):
    """A generator of all cuts of a talk, ascending."""
    for counts in row_counts(talk):
        if is_closed(talk, counts):
            yield counts


def row_counts(talk):
    """An ascending list of all tuples with a number of first doings for each row."""
    found = [()]
    for row in talk.rows:
        found = [(*counts, count) for counts in found for count in range(len(row) + 1)]
    return found


def count_cuts(talk):
    """How many cuts a talk has."""
    return len(list(cuts(talk)))


def cut_at(talk, number):
    """The cut with a number."""
    found = list(cuts(talk))
    if not is_index(number, len(found)):
        raise BadNumber(number)
    return found[number]


def cut_number(talk, cut):
    """The number of a cut."""
    check_cut(talk, cut)
    return len([lesser for lesser in cuts(talk) if lesser < cut])


def under_way(talk, cut):
    """An ascending tuple of the letters that are sent and not got at a cut."""
    check_cut(talk, cut)
    return tuple(letters_under_way(talk, cut))


def next_cuts(talk, cut):
    """An ascending tuple of the cuts with one doing more."""
    check_cut(talk, cut)
    return tuple(sorted([shifted(talk, cut, doing, 1) for doing in open_doings(talk, cut)]))


def met(talk, one, other):
    """The cut of the lesser numbers of two cuts."""
    check_cut(talk, one)
    check_cut(talk, other)
    return tuple([min(count, more) for count, more in zip(one, other)])


def joined(talk, one, other):
    """The cut of the greater numbers of two cuts."""
    check_cut(talk, one)
    check_cut(talk, other)
    return tuple([max(count, more) for count, more in zip(one, other)])

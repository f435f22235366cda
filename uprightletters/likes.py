"""Like talks: the same letters between the same hands, in rows of another order."""

from uprightletters.errors import TooGreat
from uprightletters.kinds import KINDS, kind
from uprightletters.talks import Talk, found_clocks
from uprightletters.upright import is_upright

MOST_LIKE = 4


def like_talks(talk):
    """An ascending tuple of the rows of all like talks of a talk, itself among them."""
    if talk.many > MOST_LIKE:
        raise TooGreat(MOST_LIKE)
    return tuple([rows for rows in row_orders(talk.rows) if is_told_by(rows)])


def row_orders(rows):
    """An ascending list of all rows that have the doings of some rows in any order."""
    found = [()]
    for row in rows:
        found = [(*others, order) for others in found for order in orders(sorted(row))]
    return found


def orders(items):
    """An ascending list of all orders of the items of an ascending list."""
    if len(items) == 0:
        return [()]
    return [(item, *rest) for at, item in enumerate(items) for rest in orders(items[:at] + items[at + 1:])]


def is_told_by(rows):
    """Whether rows make a talk: no doing would be ahead of itself."""
    return len(found_clocks(rows)) == sum([len(row) for row in rows])


def count_kinds(talk):
    """How many of the like talks of a talk are of each kind."""
    found = [kind(Talk(rows)) for rows in like_talks(talk)]
    return tuple([found.count(word) for word in KINDS])


def straight(talk):
    """The fewest turns from a talk to an upright like one, and the first rows of such a one."""
    upright = [rows for rows in like_talks(talk) if is_upright(Talk(rows))]
    return min([(count_turns(talk.rows, rows), rows) for rows in upright])


def count_turns(rows, others):
    """How many pairs of doings of one row stand one way in some rows and the other way in others."""
    return sum([count_row_turns(row, other) for row, other in zip(rows, others)])


def count_row_turns(row, other):
    """How many pairs of doings of a row stand the other way in another order of it."""
    places = [other.index(doing) for doing in row]
    return len([place for at, place in enumerate(places) for later in places[at + 1:] if later < place])

"""Whether a talk can be drawn upright: its moments, or a crown that bars them."""

from uprightletters.checks import is_couple, is_index, is_whole
from uprightletters.talks import is_ahead


def is_upright(talk):
    """Whether a talk has moments."""
    return moments(talk) is not None


def moments(talk):
    """The least moments of a talk, or None."""
    steps = row_steps(talk)
    least = [0] * talk.many
    # A chain of rising letters has no more steps than there are letters, unless it is a ring.
    for turn in range(talk.many + 1):
        risen = risen_moments(steps, least)
        if risen == least:
            return tuple(least)
        least = risen
    return None


def row_steps(talk):
    """Pairs of letters of which one stands next behind the other in a row."""
    return [(one[1], other[1]) for row in talk.rows for one, other in zip(row, row[1:])]


def risen_moments(steps, least):
    """The moments, each raised above those that stand next to it in front."""
    risen = list(least)
    for one, other in steps:
        risen[other] = max(risen[other], risen[one] + 1)
    return risen


def crown(talk):
    """A crown of a talk with as few letters as can be, or None."""
    nexts = [crown_nexts(talk, letter) for letter in range(talk.many)]
    best = None
    for first in range(talk.many):
        ring = ring_from(nexts, first)
        if ring is not None and (best is None or len(ring) < len(best)):
            best = ring
    return best


def crown_nexts(talk, letter):
    """The letters that may come next to a letter in a crown."""
    return [other for other in range(talk.many) if other != letter and is_crown_step(talk, letter, other)]


def is_crown_step(talk, one, other):
    """Whether the sending of a letter is ahead of the getting of another one."""
    return is_ahead(talk, ("send", one), ("get", other))


def ring_from(nexts, first):
    """A shortest ring from a letter through the next ones back to it, or None."""
    ways = [(first,)]
    seen = {first}
    at = 0
    # Ways are looked at by their length, so the first one that comes back is a shortest.
    while at < len(ways):
        way = ways[at]
        for letter in nexts[way[-1]]:
            if letter == first:
                return way
            if letter not in seen:
                seen.add(letter)
                ways.append((*way, letter))
        at += 1
    return None


def paper(talk):
    """Moments of a talk, or a crown of it, behind the word that tells which."""
    least = moments(talk)
    if least is None:
        return ("crown", crown(talk))
    return ("moments", least)


def is_paper(talk, value):
    """Whether a value is a paper on a talk."""
    if not is_couple(value):
        return False
    word, told = value
    if not isinstance(word, str) or not isinstance(told, tuple):
        return False
    if word == "moments":
        return are_moments(talk, told)
    return word == "crown" and is_crown(talk, told)


def are_moments(talk, told):
    """Whether a tuple is moments of a talk."""
    if len(told) != talk.many:
        return False
    for moment in told:
        if not is_whole(moment) or moment < 0:
            return False
    for one, other in row_steps(talk):
        if told[one] >= told[other]:
            return False
    return True


def is_crown(talk, told):
    """Whether a tuple is a crown of a talk."""
    if not 2 <= len(told) <= talk.many:
        return False
    for letter in told:
        if not is_index(letter, talk.many):
            return False
    if len(set(told)) < len(told):
        return False
    for one, other in zip(told, told[1:] + told[:1]):
        if not is_crown_step(talk, one, other):
            return False
    return True

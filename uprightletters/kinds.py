"""Whether letters are got in the order of what was known when they were sent."""

from uprightletters.talks import is_ahead
from uprightletters.upright import is_upright

KINDS = ("upright", "causal", "single", "free")


def breaks(talk):
    """An ascending list of all breaks of a talk."""
    pairs = [(one, other) for one in range(talk.many) for other in range(talk.many)]
    return [(one, other) for one, other in pairs if is_break(talk, one, other)]


def is_break(talk, one, other):
    """Whether a letter is sent ahead of another one, and the same hand gets it behind that."""
    return (talk.getters[one] == talk.getters[other]
            and is_ahead(talk, ("send", one), ("send", other))
            and is_ahead(talk, ("get", other), ("get", one)))


def causal_break(talk):
    """The first break of a talk, or None."""
    return first_of(breaks(talk))


def single_break(talk):
    """The first break of a talk whose letters are sent by the same hand, or None."""
    return first_of([(one, other) for one, other in breaks(talk) if talk.senders[one] == talk.senders[other]])


def first_of(found):
    """The first item of a list, or None."""
    if len(found) == 0:
        return None
    return found[0]


def is_causal(talk):
    """Whether a talk has no break."""
    return causal_break(talk) is None


def is_single(talk):
    """Whether a talk has no break whose letters are sent by the same hand."""
    return single_break(talk) is None


def kind(talk):
    """The first word of KINDS that holds of a talk."""
    if is_upright(talk):
        return "upright"
    if is_causal(talk):
        return "causal"
    if is_single(talk):
        return "single"
    return "free"

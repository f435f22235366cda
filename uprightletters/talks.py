"""Talks: hands that send and get letters, each in a row."""

from uprightletters.checks import is_couple, is_doing, is_index, is_listing
from uprightletters.errors import BadDoing, BadNumber, BadTalk

MOST_HANDS = 6
MOST_LETTERS = 12


class Talk:
    """A talk: for each hand a row of doings."""

    def __init__(self, rows):
        self.rows = copied_rows(rows)
        self.places = found_places(self.rows)
        self.many = count_letters(self.places)
        check_letters(self.places, self.many)
        self.senders = found_hands(self.places, "send", self.many)
        self.getters = found_hands(self.places, "get", self.many)
        self.clocks = found_clocks(self.rows)
        if len(self.clocks) < len(self.places):
            raise BadTalk(-1)

    def __len__(self):
        return len(self.senders)

    def __eq__(self, other):
        return isinstance(other, Talk) and self.rows == other.rows

    def sender(self, letter):
        """The hand that sends a letter."""
        if not is_index(letter, self.many):
            raise BadNumber(letter)
        return self.senders[letter]

    def getter(self, letter):
        """The hand that gets a letter."""
        if not is_index(letter, self.many):
            raise BadNumber(letter)
        return self.getters[letter]


def copied_rows(rows):
    """The rows as a tuple of tuples, whatever items they have."""
    if not is_listing(rows, MOST_HANDS) or len(rows) == 0:
        raise BadTalk(None)
    for row in rows:
        if not isinstance(row, (list, tuple)):
            raise BadTalk(None)
    return tuple([tuple(row) for row in rows])


def found_places(rows):
    """For each doing its hand and its number in the row of that."""
    places = {}
    for hand, row in enumerate(rows):
        for number, item in enumerate(row):
            if not is_doing(item, MOST_LETTERS) or item in places:
                raise BadTalk((hand, number))
            places[item] = (hand, number)
    return places


def count_letters(places):
    """How many letters there are from 0 to the greatest one."""
    return max([letter + 1 for word, letter in places], default=0)


def check_letters(places, many):
    """See that each letter is sent, and got by another hand."""
    for letter in range(many):
        sending = places.get(("send", letter))
        getting = places.get(("get", letter))
        if sending is None or getting is None or sending[0] == getting[0]:
            raise BadTalk(letter)


def found_hands(places, word, many):
    """For each letter the hand that sends it, or that gets it."""
    return tuple([places[(word, letter)][0] for letter in range(many)])


def found_clocks(rows):
    """For each doing its clock, if it is neither ahead of itself nor behind such a one."""
    clocks = {}
    before = -1
    while before < len(clocks):
        before = len(clocks)
        for hand, row in enumerate(rows):
            found = row_clocks(hand, row, len(rows), clocks)
            for doing in found:
                clocks[doing] = found[doing]
    return clocks


def row_clocks(hand, row, hands, clocks):
    """The clocks of the first doings of a row, up to a getting whose sending has no clock yet."""
    found = {}
    counts = [0] * hands
    for number, (word, letter) in enumerate(row):
        if word == "get":
            sent = clocks.get(("send", letter))
            if sent is None:
                return found
            counts = [max(one, other) for one, other in zip(counts, sent)]
        counts[hand] = number + 1
        found[(word, letter)] = tuple(counts)
    return found


def check_doing(talk, value):
    """See that a value is a doing of a talk."""
    if not is_doing(value, talk.many):
        raise BadDoing(value)


def is_ahead(talk, one, other):
    """Whether a doing is ahead of another one."""
    check_doing(talk, one)
    check_doing(talk, other)
    hand, number = talk.places[one]
    # A clock counts the doing itself, too, and that is not ahead of itself.
    return one != other and talk.clocks[other][hand] > number


def clock(talk, doing):
    """For each hand, how many of its doings are ahead of a doing, or are it."""
    check_doing(talk, doing)
    return talk.clocks[doing]


def drawn(hands, pairs):
    """The talk whose letters are sent and got one behind another, by pairs of hands."""
    if not is_index(hands, MOST_HANDS + 1) or hands == 0:
        raise BadNumber(hands)
    if not is_listing(pairs, MOST_LETTERS):
        raise BadTalk(None)
    rows = [[] for hand in range(hands)]
    for letter, pair in enumerate(pairs):
        if not is_hand_pair(pair, hands):
            raise BadTalk(letter)
        rows[pair[0]].append(("send", letter))
        rows[pair[1]].append(("get", letter))
    return Talk(rows)


def is_hand_pair(value, hands):
    """Whether a value is a pair of different hands."""
    if not is_couple(value):
        return False
    one, other = value
    return is_index(one, hands) and is_index(other, hands) and one != other

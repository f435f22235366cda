"""What is done at a cut, and what can be done there next."""


def first_cut(talk):
    """The cut at which nothing is done."""
    return (0,) * len(talk.rows)


def last_cut(talk):
    """The cut at which all is done."""
    return tuple([len(row) for row in talk.rows])


def shifted(talk, cut, doing, by):
    """A cut with so many doings more in the row of a doing."""
    hand = talk.places[doing][0]
    return cut[:hand] + (cut[hand] + by,) + cut[hand + 1:]


def is_done(talk, cut, doing):
    """Whether a doing is done at a cut."""
    hand, number = talk.places[doing]
    return number < cut[hand]


def can_be_done(talk, cut, doing):
    """Whether a doing is the next one of its row at a cut, and, as a getting, behind its sending."""
    hand, number = talk.places[doing]
    word, letter = doing
    return number == cut[hand] and (word == "send" or is_done(talk, cut, ("send", letter)))


def next_doings(talk, cut):
    """A list of the next doings of the rows that have one left at a cut."""
    return [row[count] for row, count in zip(talk.rows, cut) if count < len(row)]


def open_doings(talk, cut):
    """An ascending list of the doings that can be done at a cut."""
    return sorted([doing for doing in next_doings(talk, cut) if can_be_done(talk, cut, doing)])


def letters_under_way(talk, cut):
    """An ascending list of the letters that are sent and not got at a cut."""
    sent = [letter for letter in range(talk.many) if is_done(talk, cut, ("send", letter))]
    return [letter for letter in sent if not is_done(talk, cut, ("get", letter))]

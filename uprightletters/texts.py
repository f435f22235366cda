"""Texts that tell talks."""

from uprightletters.errors import BadText
from uprightletters.talks import Talk

WORDS = {"s": "send", "g": "get"}

# For each place in a text: which characters can come there, and at which place the next one comes then.
NEXTS = {
    "row": (("sg", "letter"), ("-", "empty")),
    "letter": (("0", "number"), ("123456789", "figure")),
    "figure": (("0123456789", "number"), (" ", "blank")),
    "number": ((" ", "blank"),),
    "blank": (("sg", "letter"), ("/", "stroke")),
    "empty": ((" ", "gap"),),
    "gap": (("/", "stroke"),),
    "stroke": ((" ", "row"),),
}

# The places at which a text can end.
ENDS = ("figure", "number", "empty")


def talk_text(talk):
    """The text that tells a talk."""
    return " / ".join([row_text(row) for row in talk.rows])


def row_text(row):
    """The text that tells a row."""
    if len(row) == 0:
        return "-"
    return " ".join([f"{word[0]}{letter}" for word, letter in row])


def read_talk(text):
    """The talk that a text tells."""
    check_text(text)
    return Talk([read_row(part) for part in text.split(" / ")])


def read_row(text):
    """The row that a text tells."""
    if text == "-":
        return []
    return [(WORDS[part[0]], int(part[1:])) for part in text.split(" ")]


def check_text(text):
    """See that a value is a text that tells rows."""
    if not isinstance(text, str):
        raise BadText(None)
    step = "row"
    for place, character in enumerate(text):
        step = next_step(step, character)
        if step is None:
            raise BadText(place)
    if step not in ENDS:
        raise BadText(len(text))


def next_step(step, character):
    """The place in a text behind a character, or None if that cannot come there."""
    for characters, later in NEXTS[step]:
        if character in characters:
            return later
    return None

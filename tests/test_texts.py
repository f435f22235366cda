"""uprightletters.texts: the interface of the file."""

import re
import unittest
from itertools import product
from unittest.mock import ANY

from tests.orders import great_rows, two_hand_rows
from tests.samples import fitting_small_rows, g, many_rows, odd_values, s
from uprightletters.errors import BadTalk, BadText, TalkError
from uprightletters.talks import Talk, drawn
from uprightletters.texts import read_talk, talk_text

DOING = "[sg](0|[1-9][0-9]?)"
ROW = f"(-|{DOING}( {DOING})*)"
TEXT = re.compile(f"{ROW}( / {ROW})*")

# With one of these each beginning of a text becomes a text.
ENDINGS = ("", "-", "0", "s0", "/ -", " -")


def is_beginning(told):
    """Whether some text begins so."""
    return any(TEXT.fullmatch(told + ending) for ending in ENDINGS)


def place_by_words(text):
    """The number of the first character at which no text goes on, or of the characters, or None for a text."""
    if TEXT.fullmatch(text):
        return None
    return next((at for at in range(len(text)) if not is_beginning(text[:at + 1])), len(text))


def rows_by_words(text):
    """The rows that a text tells."""
    words = {"s": "send", "g": "get"}
    return [[(words[item[0]], int(item[1:])) for item in row.split() if item != "-"] for row in text.split("/")]


class Cases(unittest.TestCase):

    def assert_place(self, place, text):
        with self.assertRaises(BadText) as caught:
            read_talk(text)
        self.assertEqual(repr(caught.exception.place), repr(place))

    def assert_talk_error(self, place, text):
        with self.assertRaises(BadTalk) as caught:
            read_talk(text)
        self.assertEqual(repr(caught.exception.place), repr(place))


class TestTalkText(Cases):

    def test_by_hand(self):
        for rows, wanted in (([[s(0), g(1)], [g(0), s(1)]], "s0 g1 / g0 s1"), ([[s(0)], [g(0)]], "s0 / g0"),
                             ([[]], "-"), ([[], []], "- / -"), ([[], [s(0)], [], [g(0)], []], "- / s0 / - / g0 / -"),
                             ([[]] * 6, "- / - / - / - / - / -"), ([[s(0)], [], [g(0)]], "s0 / - / g0"),
                             ([[s(1), s(0)], [g(0), g(1)]], "s1 s0 / g0 g1")):
            with self.subTest(wanted):
                self.assertEqual(talk_text(Talk(rows)), wanted)
                self.assertIs(type(talk_text(Talk(rows))), str)
                self.assertEqual(read_talk(wanted), Talk(rows))

    def test_letters_of_two_figures(self):
        talk = Talk([[s(k) for k in range(12)], [g(k) for k in range(12)]])
        wanted = "s0 s1 s2 s3 s4 s5 s6 s7 s8 s9 s10 s11 / g0 g1 g2 g3 g4 g5 g6 g7 g8 g9 g10 g11"
        self.assertEqual(talk_text(talk), wanted)
        self.assertEqual(read_talk(wanted), talk)

    def test_many_talks_there_and_back(self):
        for rows in many_rows() + great_rows() + two_hand_rows() + fitting_small_rows()[::3]:
            talk = Talk(rows)
            text = talk_text(talk)
            self.assertTrue(TEXT.fullmatch(text))
            self.assertEqual(rows_by_words(text), [list(row) for row in talk.rows])
            self.assertEqual(read_talk(text), talk)
            self.assertEqual(read_talk(text).rows, talk.rows)
            self.assertEqual(talk_text(read_talk(text)), text)


class TestReadTalk(Cases):

    def test_it_is_a_talk(self):
        talk = read_talk("s0 g1 / g0 s1")
        self.assertIsInstance(talk, Talk)
        self.assertEqual(talk.rows, ((s(0), g(1)), (g(0), s(1))))
        self.assertEqual((len(talk), talk.sender(1), talk.getter(1)), (2, 1, 0))
        self.assertEqual(talk, drawn(2, [(0, 1), (1, 0)]))

    def test_texts_that_go_wrong(self):
        for text, place in (("x", 0), ("S0 / g0", 0), ("s0 / G0", 5), ("s0 / g0\n", 7), ("\ns0 / g0", 0),
                            ("s0\n/ g0", 2), (" s0 / g0", 0), ("s0  / g0", 3), ("s0 /  g0", 5), ("s0 / g0 ", 8),
                            ("s0 / g0  ", 8), ("s0/ g0", 2), ("s0 /g0", 4), ("s0 // g0", 4), ("/ s0", 0),
                            ("s00 / g0", 2), ("s01 / g1", 2), ("s0 / g00", 7), ("s100 / g100", 3), ("s1234", 3),
                            ("s-1", 1), ("s+1", 1), ("s 0", 1), ("s0,g1", 2), ("s0 - / g0", 3), ("-s0", 1),
                            ("- s0", 2), ("--", 1), ("- -", 2), ("-/-", 1), ("- /-", 3), ("- / / -", 4),
                            ("sg0", 1), ("s0g0", 2), ("send 0", 1), ("0s", 0), ("s1a", 2), ("s12a", 3), ("s1.0", 2),
                            ("s0 / g0 / ?", 10), ("s0 / g0 /", 9), ("s0 / g0 / ", 10), ("s0 \n", 3), ("-\n", 1),
                            ("s1_0", 2), ("s0 x0", 3), ("s0 | g0", 3), ("s0 / g0;", 7)):
            with self.subTest(text):
                self.assert_place(place, text)

    def test_texts_that_end_too_early(self):
        for text in ("", "s", "g", "s0 ", "s0 /", "s0 / ", "s0 / g", "s10 ", "- ", "- /", "- / ", "s0 s", "s0 g1 ",
                     "s0 g1 / g0 s1 ", "s0 g1 / g0 s1 /", "s0 g1 / g0 s"):
            with self.subTest(text):
                self.assert_place(len(text), text)

    def test_each_beginning_of_a_text(self):
        text = "s0 g1 s11 / - / g0 g11 s1 / -"
        for size in range(len(text)):
            part = text[:size]
            if TEXT.fullmatch(part):
                with self.assertRaises(BadTalk):
                    read_talk(part)
            else:
                self.assert_place(size, part)

    def test_a_wrong_character_at_each_place(self):
        text = "s0 g1 s10 / - / g0 g10 s1 / -"
        for place in range(len(text) + 1):
            for wrong in "x\n~!A\\\"'{}[]":
                self.assert_place(place, text[:place] + wrong + text[place:])
                self.assert_place(place, text[:place] + wrong)

    def test_all_short_texts(self):
        for size in range(6):
            for told in product("sg-/ 01", repeat=size):
                self.check("".join(told))

    def test_longer_texts_with_one_change(self):
        for text in ("s0 g1 / g0 s1", "- / s12 / g12 g0", "s10 s9 / - / g9"):
            for place in range(len(text)):
                for wrong in ("", *"sg-/ 019x\n", "  ", "00", " /"):
                    self.check(text[:place] + wrong + text[place + 1:])

    def check(self, text):
        """Compare with a slow reading: what cannot be read, and the errors of Talk behind that."""
        place = place_by_words(text)
        if place is not None:
            self.assert_place(place, text)
            return
        try:
            wanted = Talk(rows_by_words(text))
        except BadTalk as error:
            self.assert_talk_error(error.place, text)
        else:
            self.assertEqual(read_talk(text), wanted)

    def test_no_texts(self):
        for value in [value for value in odd_values() if not isinstance(value, str)] + [
                [], (), ["s0 / g0"], ("s0", "g0"), b"s0 / g0", 0, Talk([[]]), ANY, [[s(0)], [g(0)]], {"-": 0}]:
            with self.subTest(value):
                self.assert_place(None, value)
        for text in ("", "send", "0"):
            self.assert_place(place_by_words(text), text)

    def test_figures_and_blanks_of_other_writings(self):
        for text, place in (("s\u0661", 1), ("s1\u0661", 2), ("s\u00b2", 1), ("s0\u00a0/ g0", 2), ("s0\t/ g0", 2),
                            ("\u2212", 0), ("s0\r", 2), ("\ufeffs0 / g0", 0), ("s0 \u2215 g0", 3)):
            with self.subTest(ascii(text)):
                self.assert_place(place, text)

    def test_it_is_a_talk_error(self):
        for value in (None, "", "s"):
            with self.assertRaises(TalkError):
                read_talk(value)


class TestErrorsOfTalk(Cases):

    def test_texts_that_tell_no_talk(self):
        for text, place in (("s12 / g12", (0, 0)), ("s0 / g0 g12", (1, 1)), ("s99 / g99", (0, 0)), ("s0 s0", (0, 1)),
                            ("s0 / g0 / s0", (2, 0)), ("s0 / g0 s10 g10 g10", (1, 3)), ("s0", 0), ("g0", 0),
                            ("- / s0", 0), ("s1 / g1", 0), ("s0 g0", 0), ("s0 s2 / g0 g2", 1), ("s11", 0),
                            ("s0 s1 / g0", 1), ("g0 s1 / g1 s0", -1), ("g1 s0 / g0 s1", -1),
                            ("s0 g2 / g0 s1 / s2 g1 g0", (2, 2)), (" / ".join("-" * 7), None),
                            (" / ".join("-" * 100), None), ("s0 / g0" + " / -" * 5, None)):
            with self.subTest(text):
                self.assert_talk_error(place, text)

    def test_any_number_of_rows_and_doings_is_read_ahead_of_that(self):
        self.assert_place(33, " / ".join("-" * 9) + "x")
        self.assert_place(6, "s0 s0 x")
        self.assert_place(8, "s99 g12 ")
        self.assert_place(4 * 5000 + 3, "s12 " * 5000 + "s0 ")
        self.assert_talk_error((0, 0), "s12 " * 5000 + "s0")
        self.assert_talk_error((0, 1), "s0 " * 5000 + "s0")

    def test_six_rows_and_twelve_letters(self):
        text = " / ".join(["s0 s1", "g0 s2 s3", "g1 g2 s4", "g3 g4 s5 s6 s7", "g5 g6 s8 s9 s10", "g7 g8 g9 g10 s11"])
        self.assert_talk_error(11, text)
        self.assertEqual(len(read_talk(text.replace("s0 s1", "s0 s1 g11"))), 12)


if __name__ == "__main__":
    unittest.main()

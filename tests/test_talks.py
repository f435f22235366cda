"""uprightletters.talks: point 10 and the interface of the file."""

import unittest
from collections import namedtuple
from unittest.mock import ANY

from tests.orders import great_rows
from tests.samples import (ahead_pairs, crossing_rows, fitting_small_rows, g, is_turning, many_rows, odd_values,
                           ring_rows, rows_of, s, small_rows)
from uprightletters import talks
from uprightletters.errors import BadDoing, BadNumber, BadTalk, TalkError
from uprightletters.talks import Talk, clock, drawn, is_ahead


class Cases(unittest.TestCase):

    def assert_place(self, place, rows):
        with self.assertRaises(BadTalk) as caught:
            Talk(rows)
        self.assertEqual(caught.exception.place, place)
        self.assertEqual(repr(caught.exception.place), repr(place))


class TestRows(Cases):

    def test_limits(self):
        self.assertEqual((talks.MOST_HANDS, talks.MOST_LETTERS), (6, 12))

    def test_lists_and_tuples(self):
        rows = ((s(0), g(1)), (g(0), s(1)))
        for given in (rows, [list(row) for row in rows], tuple(map(list, rows)), list(rows), [rows[0], list(rows[1])]):
            with self.subTest(given):
                talk = Talk(given)
                self.assertEqual(talk.rows, rows)
                self.assertIsInstance(talk.rows, tuple)
                self.assertTrue(all(isinstance(row, tuple) for row in talk.rows))
                self.assertEqual(talk.many, 2)

    def test_no_letters_with_one_to_six_hands(self):
        for hands in range(1, 7):
            talk = Talk([[]] * hands)
            self.assertEqual(talk.rows, ((),) * hands)
            self.assertEqual((talk.many, len(talk)), (0, 0))

    def test_twelve_letters(self):
        talk = Talk(crossing_rows(6))
        self.assertEqual((talk.many, len(talk)), (12, 12))
        self.assertEqual(Talk([[s(11 - k) for k in range(12)], [g(k) for k in range(12)]]).many, 12)

    def test_letter_eleven_and_letter_twelve(self):
        rows = [[s(k) for k in range(11)] + [s(12)], [g(k) for k in range(11)] + [g(12)]]
        self.assert_place((0, 11), rows)
        rows[0][11] = s(11)
        self.assert_place((1, 11), rows)
        rows[1][11] = g(11)
        self.assertEqual(Talk(rows).many, 12)

    def test_each_talk_is_taken(self):
        for rows in many_rows():
            talk = Talk(rows)
            self.assertEqual(talk.rows, tuple(tuple(row) for row in rows))
            self.assertEqual(talk.many, sum(len(row) for row in rows) // 2)
            self.assertEqual(len(talk), talk.many)

    def test_rows_are_kept(self):
        rows = [[s(0)], [g(0)]]
        talk = Talk(rows)
        rows[0].append(s(1))
        rows[1][0] = g(3)
        rows.append([])
        self.assertEqual(talk.rows, ((s(0),), (g(0),)))
        self.assertEqual((len(talk), talk.sender(0), clock(talk, g(0))), (1, 0, (1, 1)))
        self.assertTrue(is_ahead(talk, s(0), g(0)))
        row = [s(0)]
        talk = Talk((row, (g(0),)))
        row.clear()
        self.assertEqual(talk.rows, ((s(0),), (g(0),)))

    def test_rows_are_not_changed(self):
        for rows, wanted in (([[s(0)], [g(0)]], [[s(0)], [g(0)]]), ([[s(0)], [s(0)]], [[s(0)], [s(0)]]),
                             ([[g(0)], [s(1)], 5], [[g(0)], [s(1)], 5])):
            try:
                Talk(rows)
            except BadTalk:
                pass
            self.assertEqual(rows, wanted)


class TestBadRows(Cases):

    def test_no_list_of_rows(self):
        for rows in odd_values() + [[], (), [[]] * 7, ((),) * 7, [[s(0)], [g(0)]] + [[]] * 5, Talk([[]])]:
            with self.subTest(rows):
                self.assert_place(None, rows)

    def test_a_row_that_is_no_list(self):
        for value in odd_values() + ["s0", Talk([[]])]:
            for rows in ([value], [[], value], (value, ()), [[s(0)], [g(0)], value], [[s(0), s(0)], value, [7]]):
                with self.subTest(rows):
                    self.assert_place(None, rows)

    def test_items_that_are_no_doings(self):
        values = odd_values() + [
            [], (), ["send", 0], ("send",), ("send", 0, 0), ("send", 12), ("get", 12), ("send", -1), ("get", -1),
            ("send", True), ("send", False), ("get", True), ("get", False), ("send", None), ("send", "0"),
            ("send", b"0"), ("send", (0,)), ("send", [0]), ("send", 10 ** 999), ("send", -10 ** 999), ("Send", 0),
            ("sends", 0), ("sen", 0), ("", 0), ("got", 0), ("sendget", 0), (b"send", 0), (None, 0), (0, "send"),
            (0, 0), (("send",), 0), (["send"], 0), (True, 0), (ANY, 0), ("send", ANY), ANY,
            (Talk([[]]), 0), ("send", Talk([[]])), "s0", [[]]]
        for value in values:
            with self.subTest(value):
                self.assert_place((0, 0), [[value], []])
                self.assert_place((0, 1), [[s(0), value], [g(0)]])
                self.assert_place((2, 1), ([], (s(0),), (g(0), value)))

    def test_items_that_stand_ahead_already(self):
        self.assert_place((0, 1), [[s(0), s(0)], [g(0)]])
        self.assert_place((0, 3), [[s(0), s(1), s(2), s(1)], [g(0)]])
        self.assert_place((1, 0), [[s(0)], [s(0), g(0)]])
        self.assert_place((1, 1), [[s(0)], [g(0), g(0)]])
        self.assert_place((2, 0), [[s(0)], [g(0)], [g(0)]])
        self.assert_place((5, 0), [[s(0)], [g(0)], [], [], [], [s(0)]])

    def test_the_first_hand_then_its_first_item(self):
        self.assert_place((0, 1), [[s(0), 5, s(0)], [5]])
        self.assert_place((0, 1), [[s(0), s(0), 5], [5]])
        self.assert_place((1, 0), [[s(0), s(1)], [5, s(0)], [6]])
        self.assert_place((1, 2), [[s(0)], [g(0), g(1), g(0)], [s(12)]])
        self.assert_place((0, 2), [[s(0), g(0), 7], [7]])

    def test_very_long_rows(self):
        self.assert_place((0, 1), [[s(0)] * 100000])
        self.assert_place((0, 24), [[s(k) for k in range(12)] + [g(k) for k in range(12)] + [s(3)] * 9999])
        self.assert_place(None, [[]] * 100000)

    def test_letters_that_are_not_sent_and_got(self):
        self.assert_place(0, [[s(0)]])
        self.assert_place(0, [[], [g(0)]])
        self.assert_place(0, [[s(1)], [g(1)]])
        self.assert_place(1, [[s(0), s(2)], [g(0), g(2)]])
        self.assert_place(1, [[s(0), s(1)], [g(0)]])
        self.assert_place(1, [[s(0)], [g(0), g(1)]])
        self.assert_place(2, [[s(0), s(1), g(2)], [g(0), g(1)]])
        self.assert_place(0, [[], [], [s(11)]])
        self.assert_place(11, [[s(k) for k in range(12)], [g(k) for k in range(11)]])
        self.assert_place(10, [[s(k) for k in range(12) if k != 10], [g(k) for k in range(12) if k != 10]])

    def test_letters_by_one_hand(self):
        self.assert_place(0, [[s(0), g(0)]])
        self.assert_place(0, [[g(0), s(0)]])
        self.assert_place(1, [[s(0), s(1), g(1)], [g(0)]])
        self.assert_place(0, [[s(1)], [g(1), s(0), g(0)]])

    def test_the_first_bad_letter(self):
        self.assert_place(1, [[s(2), g(2), s(0), s(1)], [g(0)]])
        self.assert_place(0, [[s(1)], [g(0), s(2)]])
        self.assert_place(1, [[s(1), g(1), s(0)], [g(0), s(2)]])

    def test_a_doing_ahead_of_itself(self):
        self.assert_place(-1, [[g(1), s(0)], [g(0), s(1)]])
        self.assert_place(-1, [[g(0), s(1)], [g(1), s(2)], [g(2), s(0)]])
        self.assert_place(-1, [[s(2), g(1), s(0), g(3)], [g(2), g(0), s(3), s(1)]])
        self.assert_place(-1, [[s(0)], [g(0)], [g(1), s(2)], [g(2), s(1)]])
        self.assert_place(-1, [[g((k + 1) % 6), s(k)] for k in range(6)])
        self.assert_place(-1, [[g(k + 6) for k in range(6)] + [s(k) for k in range(6)],
                               [g(k) for k in range(6)] + [s(k + 6) for k in range(6)]])

    def test_all_small_rows(self):
        turning = 0
        for rows in small_rows():
            if is_turning(rows):
                turning += 1
                self.assert_place(-1, rows)
            else:
                self.assertEqual(Talk(rows).rows, rows)
        self.assertGreater(turning, 100)

    def test_of_several_errors_the_first(self):
        self.assert_place(None, [[5], [s(0), s(0)], 5])
        self.assert_place(None, [[5]] * 7)
        self.assert_place((0, 1), [[s(1), 5]])
        self.assert_place((2, 0), [[g(1), s(0)], [g(0), s(1)], [5]])
        self.assert_place((1, 1), [[s(3)], [g(3), g(3)]])
        self.assert_place(2, [[g(1), s(0)], [g(0), s(1)], [s(2)]])
        self.assert_place(2, [[g(1), s(0), s(3)], [g(0), s(1), g(3)]])
        self.assert_place(2, [[g(1), s(0), s(2), g(2)], [g(0), s(1)]])

    def test_it_is_a_talk_error(self):
        with self.assertRaises(TalkError):
            Talk(None)
        with self.assertRaises(ValueError):
            Talk([])


class TestLettersOfATalk(unittest.TestCase):

    def test_sender_and_getter(self):
        talk = Talk(rows_of("s0 g2 / g0 s1 / g1 s2 g3 / s3"))
        self.assertEqual([talk.sender(k) for k in range(4)], [0, 1, 2, 3])
        self.assertEqual([talk.getter(k) for k in range(4)], [1, 2, 0, 2])

    def test_sender_and_getter_of_many(self):
        for rows in many_rows():
            talk = Talk(rows)
            for hand, row in enumerate(rows):
                for word, letter in row:
                    method = talk.sender if word == "send" else talk.getter
                    self.assertEqual(method(letter), hand)

    def test_no_letter_of_the_talk(self):
        for rows in ([[]], rows_of("s0 g1 / g0 s1"), crossing_rows(6)):
            talk = Talk(rows)
            values = odd_values() + [talk.many, talk.many + 1, -1, "1", (0,), [0], s(0), talk, 10 ** 1001]
            for value in values:
                for method in (talk.sender, talk.getter):
                    with self.subTest(rows=rows, value=value):
                        with self.assertRaises(BadNumber) as caught:
                            method(value)
                        self.assertIs(caught.exception.value, value)

    def test_methods_stand_in_the_class(self):
        for name in ("__init__", "__len__", "__eq__", "sender", "getter"):
            self.assertIn(name, vars(Talk))

    def test_length_is_the_number_of_letters(self):
        for many in range(13):
            self.assertEqual(len(drawn(2, [(0, 1)] * many)), many)


class TestEquality(unittest.TestCase):

    def test_same_rows(self):
        rows = rows_of("s0 g1 / g0 s1")
        self.assertTrue(Talk(rows) == Talk(tuple(map(tuple, rows))))
        self.assertFalse(Talk(rows) != Talk(tuple(map(tuple, rows))))
        self.assertTrue(Talk([[]]) == Talk(((),)))

    def test_other_rows(self):
        talk = Talk(rows_of("s0 g1 / g0 s1"))
        for text in ("g1 s0 / s1 g0", "s0 g1 / s1 g0", "g0 s1 / s0 g1", "s0 g1 / g0 s1 /", "/ s0 g1 / g0 s1", "s0 / g0",
                     "s1 g0 / g1 s0"):
            other = Talk(rows_of(text))
            with self.subTest(text):
                self.assertFalse(talk == other)
                self.assertTrue(talk != other)
        self.assertTrue(Talk([[]]) != Talk([[], []]))

    def test_other_values(self):
        for talk in (Talk([[]]), Talk(rows_of("s0 / g0"))):
            for value in odd_values() + [talk.rows, list(talk.rows), 0, 1, BadTalk(None), Talk]:
                with self.subTest(value):
                    self.assertIs(talk == value, False)
                    self.assertIs(talk != value, True)
                    self.assertIs(value == talk, False)
                    self.assertIs(value != talk, True)

    def test_they_are_plain_truths(self):
        self.assertIs(Talk([[]]) == Talk([[]]), True)
        self.assertIs(Talk([[]]) != Talk([[]]), False)
        self.assertIs(Talk([[]]) == Talk([[], []]), False)
        self.assertIs(Talk([[]]) != Talk([[], []]), True)


class TestAhead(unittest.TestCase):

    def test_by_hand(self):
        talk = Talk(rows_of("s0 g2 / g0 s1 / g1 s2 / s3 / g3"))
        self.assertTrue(is_ahead(talk, s(0), g(0)))
        self.assertTrue(is_ahead(talk, s(0), g(2)))
        self.assertTrue(is_ahead(talk, s(0), s(2)))
        self.assertTrue(is_ahead(talk, g(0), g(1)))
        self.assertFalse(is_ahead(talk, g(0), s(0)))
        self.assertFalse(is_ahead(talk, s(0), s(3)))
        self.assertFalse(is_ahead(talk, s(3), s(0)))
        self.assertFalse(is_ahead(talk, s(0), g(3)))

    def test_no_doing_is_ahead_of_itself(self):
        for rows in many_rows():
            talk = Talk(rows)
            for row in rows:
                for doing in row:
                    self.assertIs(is_ahead(talk, doing, doing), False)

    def test_all_pairs(self):
        for rows in many_rows() + great_rows() + fitting_small_rows()[::7]:
            talk = Talk(rows)
            ahead = ahead_pairs(rows)
            doings = [doing for row in rows for doing in row]
            for one in doings:
                for other in doings:
                    self.assertIs(is_ahead(talk, one, other), (one, other) in ahead)

    def test_equal_doings_are_the_same(self):
        talk = Talk([[s(0)], [g(0)]])
        self.assertTrue(is_ahead(talk, ("".join(["se", "nd"]), 0), ("".join(["g", "et"]), 0)))


class TestClock(unittest.TestCase):

    def test_by_hand(self):
        talk = Talk(rows_of("s0 g2 / g0 s1 / g1 s2 / s3 / g3"))
        self.assertEqual(clock(talk, s(0)), (1, 0, 0, 0, 0))
        self.assertEqual(clock(talk, g(0)), (1, 1, 0, 0, 0))
        self.assertEqual(clock(talk, s(2)), (1, 2, 2, 0, 0))
        self.assertEqual(clock(talk, g(2)), (2, 2, 2, 0, 0))
        self.assertEqual(clock(talk, g(3)), (0, 0, 0, 1, 1))

    def test_of_all_doings(self):
        for rows in many_rows() + great_rows() + fitting_small_rows()[::7]:
            talk = Talk(rows)
            ahead = ahead_pairs(rows)
            for row in rows:
                for doing in row:
                    wanted = tuple(sum(one == doing or (one, doing) in ahead for one in line) for line in rows)
                    found = clock(talk, doing)
                    self.assertIsInstance(found, tuple)
                    self.assertEqual(found, wanted)


class TestBadDoings(unittest.TestCase):

    def bad_values(self, talk):
        many = talk.many
        return odd_values() + [
            ["send", 0], ["get", 0], ("send",), ("send", 0, 0), s(many), g(many), s(-1), g(-1), s(12), s(True),
            s(False), g(True), g(False), s(None), s("0"), s([0]), s(10 ** 999), ("Send", 0), ("got", 0), ("", 0),
            (b"send", 0), (None, 0), (["send"], 0), (0, "send"), (s(0), 0), (ANY, 0), s(ANY), ANY,
            (), [], 0, talk, (talk, 0), s(talk)]

    def test_is_ahead_and_clock(self):
        for rows in ([[]], rows_of("s0 / g0"), rows_of("s0 g1 / g0 s1")):
            talk = Talk(rows)
            for value in self.bad_values(talk):
                calls = [lambda: clock(talk, value), lambda: is_ahead(talk, value, value)]
                if talk.many:
                    calls += [lambda: is_ahead(talk, value, s(0)), lambda: is_ahead(talk, g(0), value)]
                for call in calls:
                    with self.subTest(rows=rows, value=value):
                        with self.assertRaises(BadDoing) as caught:
                            call()
                        self.assertIs(caught.exception.value, value)

    def test_of_two_refused_values_the_first(self):
        talk = Talk(rows_of("s0 / g0"))
        one, other = ["send", 0], ("send", 5)
        for first, second in ((one, other), (other, one), (["send", 0], ["send", 0])):
            with self.assertRaises(BadDoing) as caught:
                is_ahead(talk, first, second)
            self.assertIs(caught.exception.value, first)
            with self.assertRaises(BadDoing) as caught:
                is_ahead(other=second, one=first, talk=talk)
            self.assertIs(caught.exception.value, first)


class TestDrawn(unittest.TestCase):

    def test_by_hand(self):
        talk = drawn(3, [(0, 1), (2, 0), (1, 0)])
        self.assertIsInstance(talk, Talk)
        self.assertEqual(talk.rows, ((s(0), g(1), g(2)), (g(0), s(2)), (s(1),)))

    def test_lists_and_tuples(self):
        self.assertEqual(drawn(2, ((0, 1), (1, 0))), Talk([[s(0), g(1)], [g(0), s(1)]]))
        self.assertEqual(drawn(2, [(0, 1), (1, 0)]), Talk([[s(0), g(1)], [g(0), s(1)]]))

    def test_edges(self):
        for hands in range(1, 7):
            self.assertEqual(drawn(hands, []).rows, ((),) * hands)
            self.assertEqual(drawn(hands, ()).rows, ((),) * hands)
        talk = drawn(6, [(5, 0)] * 12)
        self.assertEqual(talk.rows, (tuple(map(g, range(12))), (), (), (), (), tuple(map(s, range(12)))))

    def test_no_number_of_hands(self):
        for value in odd_values() + [0, 7, 8, -6, "3", [3], (3,), 10 ** 1001]:
            for pairs in ([], [(0, 1)], None, [5]):
                with self.subTest(value=value, pairs=pairs):
                    with self.assertRaises(BadNumber) as caught:
                        drawn(value, pairs)
                    self.assertIs(caught.exception.value, value)

    def assert_place(self, place, hands, pairs):
        with self.assertRaises(BadTalk) as caught:
            drawn(hands, pairs)
        self.assertEqual(repr(caught.exception.place), repr(place))

    def test_no_list_of_pairs(self):
        for value in odd_values() + [[(0, 1)] * 13, ((0, 1),) * 13, [None] * 13, {(0, 1): 2}, Talk([[]])]:
            with self.subTest(value):
                self.assert_place(None, 2, value)

    def test_items_that_are_no_pairs(self):
        values = odd_values() + [
            [0, 1], (), (0,), (0, 1, 2), (0, 0), (2, 2), (0, 3), (3, 0), (-1, 0), (0, -1), (True, 0), (0, True),
            (False, 1), (1, False), (None, 0), (0, None), ("0", 1), (0, "1"), ([0], 1), (0, 10 ** 999), "01", [(0, 1)]]
        for value in values:
            with self.subTest(value):
                self.assert_place(0, 3, [value])
                self.assert_place(2, 3, ((0, 1), (1, 2), value, None))
                self.assert_place(11, 3, [(0, 1)] * 11 + [value])
        self.assert_place(0, 1, [(0, 1)])
        self.assert_place(0, 1, [(0, 0)])

    def test_hands_up_to_the_last_one(self):
        for hands in range(2, 7):
            self.assertEqual(drawn(hands, [(0, hands - 1)]).getter(0), hands - 1)
            self.assert_place(1, hands, [(0, hands - 1), (0, hands)])

    def test_a_pair_of_another_tuple_class(self):
        pair = namedtuple("pair", "one other")
        self.assertEqual(drawn(2, [pair(0, 1)]).rows, ((s(0),), (g(0),)))

    def test_a_ring_is_not_drawn(self):
        self.assertNotEqual(drawn(3, [(0, 2), (1, 0), (2, 1)]), Talk(ring_rows(3)))


if __name__ == "__main__":
    unittest.main()

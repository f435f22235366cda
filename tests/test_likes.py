"""uprightletters.likes: points 43 and 53, and the interface of the file."""

import unittest
from collections import Counter, defaultdict
from itertools import combinations, permutations, product

from tests.orders import all_breaks, crossed_break_rows, hands_of, one_way_rows, single_breaks, wheel_rows
from tests.samples import (ahead_pairs, crossing_rows, drawn_rows, fitting_small_rows, g, is_turning, least_crown_size,
                           many_rows, near_upright_rows, random_rows, ring_rows, rows_of, s)
from uprightletters import likes
from uprightletters.errors import TalkError, TooGreat
from uprightletters.kinds import KINDS, kind
from uprightletters.likes import count_kinds, like_talks, straight
from uprightletters.talks import Talk, drawn
from uprightletters.upright import is_upright

FUNCTIONS = (like_talks, count_kinds, straight)


def tuples_of(text):
    """Rows from a short form, as tuples."""
    return tuple(map(tuple, rows_of(text)))


def who_writes_whom(rows):
    """How many hands there are, and for each letter who sends and who gets it."""
    return len(rows), tuple(sorted(hands_of(rows, "send").items())), tuple(sorted(hands_of(rows, "get").items()))


def all_likes(rows):
    """The rows of all like talks, ascending: all orders of the rows in which no doing is ahead of itself."""
    return sorted(told for told in product(*[permutations(row) for row in rows]) if not is_turning(told))


def kind_by_words(rows):
    """The kind of a talk, by slow readings."""
    if least_crown_size(rows) is None:
        return "upright"
    if not all_breaks(rows):
        return "causal"
    return "free" if single_breaks(rows) else "single"


def count_turns(rows, others):
    """How many pairs of doings of one row stand one way in the first rows and the other way in the others."""
    found = 0
    for row, other in zip(rows, others):
        ways = {(one, later) for at, one in enumerate(other) for later in other[at + 1:]}
        found += sum((one, later) not in ways for one, later in combinations(row, 2))
    return found


def turns_by_steps(rows, wanted):
    """How many neighbours in rows must be exchanged to come from some rows to others: the turns, by a second way."""
    layer, known, steps = {rows}, {rows}, 0
    while wanted not in layer:
        layer = {exchanged(told, hand, at) for told in layer for hand, row in enumerate(told)
                 for at in range(len(row) - 1)} - known
        known |= layer
        steps += 1
    return steps


def exchanged(rows, hand, at):
    """Rows in which two neighbours have changed places."""
    row = rows[hand]
    return rows[:hand] + (row[:at] + (row[at + 1], row[at]) + row[at + 2:],) + rows[hand + 1:]


class TestByHand(unittest.TestCase):

    def test_most(self):
        self.assertEqual(likes.MOST_LIKE, 4)
        self.assertIs(type(likes.MOST_LIKE), int)

    def test_two_letters_that_cross(self):
        talk = Talk(rows_of("s0 g1 / s1 g0"))
        wanted = (tuples_of("g1 s0 / s1 g0"), tuples_of("s0 g1 / g0 s1"), tuples_of("s0 g1 / s1 g0"))
        self.assertEqual(like_talks(talk), wanted)
        self.assertEqual(count_kinds(talk), (2, 1, 0, 0))
        # Of two talks that are one turn away the one whose rows are less.
        self.assertEqual(straight(talk), (1, tuples_of("g1 s0 / s1 g0")))

    def test_two_letters_one_way(self):
        talk = Talk(rows_of("s0 s1 / g1 g0"))
        wanted = (tuples_of("s0 s1 / g0 g1"), tuples_of("s0 s1 / g1 g0"), tuples_of("s1 s0 / g0 g1"),
                  tuples_of("s1 s0 / g1 g0"))
        self.assertEqual(like_talks(talk), wanted)
        self.assertEqual(count_kinds(talk), (2, 0, 0, 2))
        self.assertEqual(straight(talk), (1, tuples_of("s0 s1 / g0 g1")))

    def test_straight(self):
        for text, turns, wanted in (("s1 s0 / g0 g1", 1, "s0 s1 / g0 g1"), ("s0 s1 s2 / g2 g1 g0", 3, None),
                                    ("s0 s1 / g1 s2 / g2 g0", 1, "s0 s1 / g1 s2 / g0 g2"),
                                    ("s0 s1 s2 s3 / g3 g2 g1 g0", 6, "s0 s1 s2 s3 / g0 g1 g2 g3"),
                                    ("s0 s1 s2 s3 / g0 g1 g3 g2", 1, "s0 s1 s2 s3 / g0 g1 g2 g3")):
            with self.subTest(text):
                found = straight(Talk(rows_of(text)))
                self.assertEqual(found[0], turns)
                if wanted is not None:
                    self.assertEqual(found[1], tuples_of(wanted))

    def test_an_upright_talk_is_straight(self):
        for rows in (rows_of("s0 / g0"), rows_of("s1 s0 / g1 g0"), drawn_rows(3, [(0, 1), (1, 2), (2, 0), (0, 2)])):
            talk = Talk(rows)
            self.assertEqual(straight(talk), (0, talk.rows))

    def test_talks_without_letters(self):
        for hands in range(1, 7):
            talk, rows = Talk([[]] * hands), ((),) * hands
            self.assertEqual(like_talks(talk), (rows,))
            self.assertEqual(count_kinds(talk), (1, 0, 0, 0))
            self.assertEqual(straight(talk), (0, rows))

    def test_hands_without_doings(self):
        talk = Talk(rows_of("/ s0 s1 / / g1 g0 / /"))
        self.assertEqual(len(like_talks(talk)), 4)
        self.assertEqual(like_talks(talk)[0], tuples_of("/ s0 s1 / / g0 g1 / /"))
        self.assertEqual(straight(talk), (1, tuples_of("/ s0 s1 / / g0 g1 / /")))

    def test_one_letter(self):
        talk = Talk(rows_of("g0 / s0"))
        self.assertEqual(like_talks(talk), (talk.rows,))
        self.assertEqual(count_kinds(talk), (1, 0, 0, 0))

    def test_all_of_four_letters_one_way(self):
        talk = Talk(one_way_rows(4))
        found = like_talks(talk)
        self.assertEqual((len(found), found[0], found[-1]), (576, tuples_of("s0 s1 s2 s3 / g0 g1 g2 g3"),
                                                              tuples_of("s3 s2 s1 s0 / g3 g2 g1 g0")))
        self.assertEqual(count_kinds(talk), (24, 0, 0, 552))

    def test_rows_of_lists_are_told_as_tuples(self):
        talk = Talk([[s(0), g(1)], [s(1), g(0)]])
        for rows in like_talks(talk) + (straight(talk)[1],):
            self.assertIs(type(rows), tuple)
            self.assertTrue(all(type(row) is tuple for row in rows))


class TestAgainstTheWords(unittest.TestCase):

    def check(self, rows):
        talk = Talk(rows)
        found = all_likes(rows)
        self.assertEqual(like_talks(talk), tuple(found))
        self.assertIn(talk.rows, found)
        words = Counter(kind_by_words(told) for told in found)
        self.assertEqual(count_kinds(talk), tuple(words[word] for word in KINDS))
        self.check_straight(talk, [told for told in found if least_crown_size(told) is None])

    def check_straight(self, talk, upright):
        self.assertTrue(upright)
        turns = [count_turns(talk.rows, told) for told in upright]
        found = straight(talk)
        self.assertIs(type(found), tuple)
        self.assertEqual(found, (min(turns), upright[turns.index(min(turns))]))
        self.assertEqual(found[0] == 0, is_upright(talk))

    def test_small_talks(self):
        for rows in fitting_small_rows()[::16]:
            self.check(rows)

    def test_four_letters(self):
        for seed in range(5):
            self.check(random_rows(seed, 2 + seed % 4, 4))
            self.check(near_upright_rows(seed, 3 + seed % 4, 4))
        for rows in (crossing_rows(2), ring_rows(4), rows_of("s0 s1 s2 / g2 s3 / g3 g1 g0")):
            self.check(rows)

    def test_all_talks_that_have_the_same_senders_and_getters(self):
        known = defaultdict(list)
        for rows in fitting_small_rows():
            known[who_writes_whom(rows)].append(tuple(map(tuple, rows)))
        for told in known.values():
            for rows in told[::30]:
                self.assertEqual(like_talks(Talk(rows)), tuple(sorted(told)))

    def test_like_talks_have_the_same_like_talks(self):
        for rows in (rows_of("s0 g1 / s1 g0 g2 / s2"), rows_of("s0 s1 / g1 s2 / g2 g0")):
            talk = Talk(rows)
            for told in like_talks(talk):
                self.assertEqual(like_talks(Talk(told)), like_talks(talk))
                self.assertEqual(count_kinds(Talk(told)), count_kinds(talk))
                self.assertEqual(who_writes_whom(told), who_writes_whom(rows))

    def test_turns_are_exchanges_of_neighbours(self):
        for rows in fitting_small_rows()[5::150] + [random_rows(seed, 3, 4) for seed in range(3)]:
            talk = Talk(rows)
            turns, wanted = straight(talk)
            self.assertEqual(turns_by_steps(talk.rows, wanted), turns)

    def test_one_at_least_is_upright(self):
        for rows in many_rows() + fitting_small_rows()[::7]:
            talk = Talk(rows)
            if talk.many <= 4:
                self.assertGreater(count_kinds(talk)[0], 0)
                self.assertEqual(sum(count_kinds(talk)), len(like_talks(talk)))

    def test_kinds_are_those_of_the_package(self):
        talk = Talk(rows_of("s0 s1 / g1 s2 / g2 g0"))
        found = [kind(Talk(rows)) for rows in like_talks(talk)]
        self.assertEqual(count_kinds(talk), tuple(found.count(word) for word in KINDS))
        self.assertGreater(count_kinds(talk)[2], 0)
        self.assertIs(type(count_kinds(talk)), tuple)

    def test_no_doing_is_ahead_of_itself(self):
        for rows in like_talks(Talk(ring_rows(4))):
            self.assertTrue(all(one != other for one, other in ahead_pairs(rows)))


class TestTooGreat(unittest.TestCase):

    def test_more_than_four_letters(self):
        talks = [drawn(2, [(0, 1)] * 5), drawn(6, [(k, k + 1) for k in range(5)]), Talk(ring_rows(5)),
                 Talk(wheel_rows()), Talk(crossed_break_rows())]
        for talk in talks + [drawn(3, [(0, 1)] * many) for many in range(6, 13)]:
            for function in FUNCTIONS:
                with self.assertRaises(TooGreat) as caught:
                    function(talk)
                self.assertEqual(caught.exception.most, 4)
                self.assertIsInstance(caught.exception, OverflowError)
                self.assertNotIsInstance(caught.exception, TalkError)

    def test_four_letters(self):
        for function in FUNCTIONS:
            for talk in (drawn(2, [(0, 1)] * 4), Talk(ring_rows(4)), drawn(6, [(k, k + 1) for k in range(4)])):
                self.assertIsInstance(function(talk), tuple)


if __name__ == "__main__":
    unittest.main()

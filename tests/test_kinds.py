"""uprightletters.kinds: points 14 and 21, and the interface of the file."""

import unittest

from tests.orders import all_breaks, crossed_break_rows, great_rows, single_breaks, two_hand_rows
from tests.samples import crossing_rows, fitting_small_rows, g, least_crown_size, many_rows, ring_rows, rows_of, s
from uprightletters import kinds
from uprightletters.kinds import breaks, causal_break, is_causal, is_single, kind, single_break
from uprightletters.talks import Talk, drawn


class TestByHand(unittest.TestCase):

    def test_kinds(self):
        self.assertEqual(kinds.KINDS, ("upright", "causal", "single", "free"))
        self.assertIsInstance(kinds.KINDS, tuple)

    def test_one_of_each_kind(self):
        for text, wanted in (("", "upright"), ("/ / / / /", "upright"), ("s0 / g0", "upright"),
                             ("s0 s1 / g0 g1", "upright"), ("s0 g1 / s1 g0", "causal"), ("s0 s1 / g1 g0", "free"),
                             ("s0 s1 / g1 s2 / g2 g0", "single"), ("s1 s0 / g0 s2 / g2 g1", "single"),
                             ("s0 s1 / g1 / g0", "upright"), ("s0 / s1 / g1 g0", "upright"),
                             ("s0 s1 g2 / s2 g0 g1", "causal"), ("s0 s1 g2 / s2 g1 g0", "free")):
            with self.subTest(text):
                self.assertEqual(kind(Talk(rows_of(text))), wanted)

    def test_of_twelve_letters(self):
        self.assertEqual(kind(drawn(6, [(k % 6, (k + 1) % 6) for k in range(12)])), "upright")
        self.assertEqual(kind(Talk(crossing_rows(6))), "causal")
        # Letter 0 is sent ahead of all others, and got behind them.
        chain = [[s(0), s(1)], [g(1), s(2), g(6)], [g(2), s(3)], [g(3), s(4)], [g(4), s(5)], [g(5), g(0), s(6)]]
        self.assertEqual(kind(Talk(chain)), "single")
        self.assertEqual(breaks(Talk(chain)), [(0, 5)])
        self.assertEqual(kind(Talk(crossed_break_rows())), "free")
        self.assertEqual(kind(Talk(ring_rows(6))), "causal")

    def test_breaks(self):
        for text, wanted in (("s0 s1 / g1 g0", [(0, 1)]), ("s1 s0 / g0 g1", [(1, 0)]), ("s0 s1 / g0 g1", []),
                             ("s0 s1 s2 / g2 g1 g0", [(0, 1), (0, 2), (1, 2)]),
                             ("s2 s1 s0 / g0 g1 g2", [(1, 0), (2, 0), (2, 1)]),
                             ("s1 s2 s0 / g0 g2 g1", [(1, 0), (1, 2), (2, 0)]),
                             ("s0 s1 / g1 s2 / g2 g0", [(0, 2)]), ("s0 s2 / g2 s1 / g1 g0", [(0, 1)]),
                             ("s0 / s1 / g1 g0", []), ("s0 s1 / g1 / g0", []), ("", [])):
            with self.subTest(text):
                talk = Talk(rows_of(text))
                self.assertEqual(breaks(talk), wanted)
                self.assertIsInstance(breaks(talk), list)
                self.assertEqual(causal_break(talk), wanted[0] if wanted else None)
                self.assertIs(is_causal(talk), not wanted)

    def test_all_pairs_of_twelve(self):
        talk = Talk([[s(k) for k in range(12)], [g(11 - k) for k in range(12)]])
        self.assertEqual(breaks(talk), [(one, other) for one in range(12) for other in range(one + 1, 12)])
        talk = Talk([[s(11 - k) for k in range(12)], [g(k) for k in range(12)]])
        self.assertEqual(breaks(talk), [(one, other) for one in range(12) for other in range(one)])

    def test_the_first_break_of_the_same_sender(self):
        # (0, 2) is a break, but hand 1 sends letter 2; (3, 4) is the first one whose letters hand 0 sends.
        talk = Talk(rows_of("s0 s1 s3 s4 / g1 s2 / g2 g0 g4 g3"))
        self.assertEqual(breaks(talk), [(0, 2), (3, 4)])
        self.assertEqual((causal_break(talk), single_break(talk)), ((0, 2), (3, 4)))
        self.assertIs(is_causal(talk), False)
        self.assertIs(is_single(talk), False)
        talk = Talk(rows_of("s0 s1 / g1 s2 / g2 g0"))
        self.assertEqual((causal_break(talk), single_break(talk)), ((0, 2), None))
        self.assertIs(is_causal(talk), False)
        self.assertIs(is_single(talk), True)

    def test_returned_lists_are_new(self):
        talk = Talk(rows_of("s0 s1 / g1 g0"))
        breaks(talk).append(5)
        found = breaks(talk)
        found.clear()
        self.assertEqual(breaks(talk), [(0, 1)])
        self.assertEqual(causal_break(talk), (0, 1))


class TestAgainstTheWords(unittest.TestCase):

    def check(self, rows):
        talk = Talk(rows)
        wanted, single = all_breaks(rows), single_breaks(rows)
        self.assertEqual(breaks(talk), wanted)
        self.assertEqual(causal_break(talk), wanted[0] if wanted else None)
        self.assertEqual(single_break(talk), single[0] if single else None)
        self.assertIs(is_causal(talk), wanted == [])
        self.assertIs(is_single(talk), single == [])
        holds = (least_crown_size(rows) is None, wanted == [], single == [], True)
        self.assertEqual(kind(talk), kinds.KINDS[holds.index(True)])
        # The first word that holds is not followed by one that does not.
        self.assertEqual(list(holds), sorted(holds))
        return kind(talk)

    def test_many_talks(self):
        self.assertEqual({self.check(rows) for rows in many_rows()}, set(kinds.KINDS))

    def test_small_talks(self):
        self.assertEqual({self.check(rows) for rows in fitting_small_rows()}, set(kinds.KINDS))

    def test_great_talks(self):
        self.assertEqual({self.check(rows) for rows in great_rows()}, set(kinds.KINDS))

    def test_of_two_hands_causal_ones_are_the_single_ones(self):
        found = set()
        for rows in two_hand_rows() + [rows for rows in fitting_small_rows() if len(rows) == 2]:
            found.add(self.check(rows))
            self.assertIs(is_causal(Talk(rows)), is_single(Talk(rows)))
        self.assertEqual(found, {"upright", "causal", "free"})


if __name__ == "__main__":
    unittest.main()

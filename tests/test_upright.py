"""uprightletters.upright: points 11 to 13, 20 and 22, and the interface of the file."""

import unittest
from itertools import permutations, product
from unittest.mock import ANY

from tests import samples
from tests.orders import great_rows
from tests.samples import crossing_rows, fitting_small_rows, g, many_rows, odd_values, ring_rows, rows_of, s
from uprightletters.talks import Talk, drawn
from uprightletters.upright import crown, is_paper, is_upright, moments, paper


def turns(ring):
    """A ring from each of its letters on."""
    return [ring[k:] + ring[:k] for k in range(len(ring))]


class TestByHand(unittest.TestCase):

    def test_upright_ones(self):
        for text, wanted in (("", ()), ("/ / / / /", ()), ("s0 / g0", (0,)), ("s0 g1 / g0 s1", (0, 1)),
                             ("s1 g0 / g1 s0", (1, 0)), ("s0 s1 / g0 g1", (0, 1)), ("s0 / g0 / s1 / g1", (0, 0)),
                             ("s0 g2 / g0 s1 / g1 s2", (0, 1, 2)), ("s3 s0 / g0 s1 / g1 s2 / g2 / g3", (1, 2, 3, 0)),
                             ("s0 s1 / g0 s2 / g1 g2", (0, 1, 2)), ("s0 s1 / g0 s2 / g2 g1", (0, 2, 1))):
            with self.subTest(text):
                talk = Talk(rows_of(text))
                self.assertIs(is_upright(talk), True)
                self.assertEqual(moments(talk), wanted)
                self.assertIsInstance(moments(talk), tuple)
                self.assertIsNone(crown(talk))
                self.assertEqual(paper(talk)[0], "moments")

    def test_a_chain_of_twelve(self):
        talk = drawn(2, [(0, 1)] * 12)
        self.assertEqual(moments(talk), tuple(range(12)))
        rows = [[s(11 - k) for k in range(12)], [g(11 - k) for k in range(12)]]
        self.assertEqual(moments(Talk(rows)), tuple(range(11, -1, -1)))

    def test_six_hands_side_by_side(self):
        talk = drawn(6, [(0, 1), (2, 3), (4, 5)] * 4)
        self.assertEqual(moments(talk), (0, 0, 0, 1, 1, 1, 2, 2, 2, 3, 3, 3))

    def test_barred_ones(self):
        for text, size in (("s0 g1 / s1 g0", 2), ("s0 s1 / g1 g0", 2), ("s0 s1 / s2 g0 / g1 g2", 2),
                           ("s0 s1 / g0 s2 g1 / g2", 0), ("s0 s1 / g0 s2 / g2 g1", 0), ("s0 s1 / g1 / g0", 0),
                           ("s0 s1 s2 / g1 g0 g2", 2), ("s2 s0 g1 / s1 g0 / g2", 2)):
            with self.subTest(text):
                talk = Talk(rows_of(text))
                self.assertEqual(len(crown(talk) or ()), size)
                self.assertIs(is_upright(talk), size == 0)
                self.assertEqual(moments(talk) is None, size > 0)

    def test_rings(self):
        for many in range(2, 7):
            talk = Talk(ring_rows(many))
            self.assertFalse(is_upright(talk))
            self.assertIsNone(moments(talk))
            self.assertIn(crown(talk), turns(tuple(range(many))))
            self.assertIn(paper(talk), [("crown", ring) for ring in turns(tuple(range(many)))])

    def test_a_long_ring_beside_a_short_one(self):
        rows = ring_rows(4) + [[s(4), g(5)], [s(5), g(4)]]
        self.assertIn(crown(Talk(rows)), ((4, 5), (5, 4)))
        rows = [[s(0), g(1)], [s(1), g(0)]] + [[s(k), g(2 + (k - 1) % 4)] for k in range(2, 6)]
        self.assertIn(crown(Talk(rows)), ((0, 1), (1, 0)))

    def test_a_crown_through_other_letters(self):
        talk = Talk(rows_of("s0 s2 / g2 g1 / s1 s3 / g3 g0"))
        self.assertIn(crown(talk), ((0, 1), (1, 0)))

    def test_twelve_letters_that_cross(self):
        talk = Talk(crossing_rows(6))
        self.assertEqual(len(crown(talk)), 2)
        self.assertIsNone(moments(talk))


class TestAgainstTheWords(unittest.TestCase):

    def check(self, rows):
        talk = Talk(rows)
        size = samples.least_crown_size(rows)
        least, ring = moments(talk), crown(talk)
        self.assertIs(is_upright(talk), size is None)
        if size is None:
            self.assertIsNone(ring)
            self.assertIsInstance(least, tuple)
            self.assertEqual(len(least), talk.many)
            self.assertTrue(samples.are_moments(rows, least))
            self.assertTrue(samples.are_least(rows, least))
        else:
            self.assertIsNone(least)
            self.assertIsInstance(ring, tuple)
            self.assertEqual(len(ring), size)
            self.assertTrue(samples.is_crown(rows, ring))
        self.check_paper(talk, least, ring)
        return size

    def check_paper(self, talk, least, ring):
        word, told = paper(talk)
        self.assertIsInstance(paper(talk), tuple)
        self.assertIs(is_paper(talk, (word, told)), True)
        self.assertEqual(word, "crown" if least is None else "moments")
        if word == "moments":
            self.assertTrue(all(0 <= moment < 10 ** 100 for moment in told))
            self.assertTrue(samples.are_moments(talk.rows, told))
        else:
            self.assertTrue(samples.is_crown(talk.rows, told))
        self.assertEqual(is_paper(talk, ("moments", least)), ring is None)
        self.assertEqual(is_paper(talk, ("crown", ring)), least is None)
        self.assertFalse(is_paper(talk, ("crown", least)))
        self.assertFalse(is_paper(talk, ("moments", ring)))

    def test_many_talks(self):
        sizes = [self.check(rows) for rows in many_rows()]
        self.assertGreater(sizes.count(None), 50)
        self.assertLessEqual({2, 3, 4, 5, 6}, set(sizes))

    def test_small_talks(self):
        for rows in fitting_small_rows():
            self.check(rows)

    def test_talks_of_twelve_letters_and_six_hands(self):
        sizes = [self.check(rows) for rows in great_rows()]
        self.assertEqual(set(sizes), {None, 2, 3, 4, 5, 6})

    def test_least_of_all_moments(self):
        for rows in fitting_small_rows()[::11]:
            talk = Talk(rows)
            every = [told for told in product(range(talk.many), repeat=talk.many) if samples.are_moments(rows, told)]
            wanted = tuple(map(min, zip(*every))) if every else None
            self.assertEqual(moments(talk), wanted)

    def test_not_one_of_each_sort(self):
        for rows in fitting_small_rows()[::11] + [ring_rows(4)]:
            talk = Talk(rows)
            letters = range(talk.many)
            drawings = [told for told in product(letters, repeat=talk.many) if is_paper(talk, ("moments", told))]
            rings = [told for size in range(talk.many + 1) for told in permutations(letters, size)
                     if is_paper(talk, ("crown", told))]
            self.assertNotEqual(bool(drawings), bool(rings))
            self.assertEqual(bool(drawings), is_upright(talk))

    def test_each_value_of_small_papers(self):
        for rows in fitting_small_rows()[::23] + [ring_rows(3), ring_rows(4)]:
            talk = Talk(rows)
            for size in range(talk.many + 2):
                for told in product(range(talk.many + 1), repeat=size):
                    is_ring = max(told, default=0) < talk.many and samples.is_crown(rows, told)
                    self.assertIs(is_paper(talk, ("crown", told)), is_ring)
                    fits = size == talk.many and samples.are_moments(rows, told)
                    self.assertIs(is_paper(talk, ("moments", told)), fits)


class TestPapers(unittest.TestCase):

    def setUp(self):
        self.upright = Talk(rows_of("s0 s1 / g0 g1"))
        self.barred = Talk(rows_of("s0 g1 / s1 g0"))
        self.empty = Talk([[]])

    def test_moments_need_not_be_least(self):
        for told in ((0, 1), (0, 2), (3, 7), (0, 10 ** 999), (10 ** 998, 10 ** 999), (10 ** 100, 10 ** 100 + 1)):
            self.assertIs(is_paper(self.upright, ("moments", told)), True)

    def test_no_moments(self):
        for told in ((1, 0), (0, 0), (1, 1), (-1, 0), (-2, -1), (0,), (), (0, 1, 2), [0, 1], (False, True), (0, True),
                     (None, 1), (0, None), ("0", "1"), (0, "1"), ((0,), 1), (0, [1]), "01", None, 0, {0: 0, 1: 1},
                     range(2), (10 ** 999, 0), (0, -10 ** 999), b"\x00\x01"):
            with self.subTest(told):
                self.assertIs(is_paper(self.upright, ("moments", told)), False)
                self.assertIs(is_paper(self.barred, ("moments", told)), False)

    def test_crowns(self):
        self.assertIs(is_paper(self.barred, ("crown", (0, 1))), True)
        self.assertIs(is_paper(self.barred, ("crown", (1, 0))), True)

    def test_no_crowns(self):
        for told in ((), (0,), (1,), (0, 0), (1, 1), (0, 1, 0), (0, 1, 0, 1), (0, 1, 1), (0, 2), (2, 0), (0, -1),
                     (-1, 0), (-2, -1), (False, True), (0, True), (False, 1), [0, 1], (None, 0), (0, None),
                     ("0", "1"), ((0,), 1), ([0], [1]), ({}, {}), "01", None, 0, {0: 1, 1: 0}, range(2), (0, 10 ** 999),
                     (0,) * 100000):
            with self.subTest(str(told)[:50]):
                self.assertIs(is_paper(self.barred, ("crown", told)), False)
                self.assertIs(is_paper(self.upright, ("crown", told)), False)

    def test_the_empty_talk(self):
        self.assertEqual(paper(self.empty), ("moments", ()))
        self.assertIs(is_upright(self.empty), True)
        self.assertEqual(moments(self.empty), ())
        self.assertIs(is_paper(self.empty, ("moments", ())), True)
        for value in (("crown", ()), ("moments", (0,)), ("crown", (0,)), ("crown", (0, 1)), ("moments", []), ()):
            self.assertIs(is_paper(self.empty, value), False)

    def test_other_words_lengths_and_kinds(self):
        for talk, word, told in ((self.upright, "moments", (0, 1)), (self.barred, "crown", (0, 1))):
            self.assertIs(is_paper(talk, (word, told)), True)
            other = "crown" if word == "moments" else "moments"
            values = odd_values() + [
                [word, told], (word,), (told,), (word, told, None), (word, told, told), (told, word), (other, told),
                (word.upper(), told), (word[:-1], told), (word + "s", told), ("", told), (None, told), (0, told),
                (word.encode(), told), ((word,), told), ([word], told), (True, told), (ANY, told), (word, ANY), ANY,
                (talk, told), (word, talk), talk, told, word, list(told), {word: told}, ((word, told),),
                [(word, told)], (word, list(told)), ()]
            for value in values:
                with self.subTest(word=word, value=value):
                    self.assertIs(is_paper(talk, value), False)

    def test_crowns_longer_than_the_least(self):
        talk = Talk(crossing_rows(6))
        ring = tuple(letter for pair in zip(range(6), range(6, 12)) for letter in pair)
        for size in range(2, 13, 2):
            self.assertIs(is_paper(talk, ("crown", ring[:size])), True)
            self.assertIs(is_paper(talk, ("crown", ring[:size][::-1])), True)
            self.assertIs(is_paper(talk, ("crown", ring[:size] + ring[:1])), False)
            self.assertIs(is_paper(talk, ("crown", ring[:size - 1] + (12,))), False)

    def test_a_ring_the_other_way_round(self):
        for many in range(3, 7):
            talk = Talk(ring_rows(many))
            for ring in turns(tuple(range(many))):
                self.assertIs(is_paper(talk, ("crown", ring)), True)
                self.assertIs(is_paper(talk, ("crown", ring[::-1])), False)
                self.assertIs(is_paper(talk, ("crown", ring[:-1])), False)

    def test_the_last_step_counts(self):
        talk = Talk(rows_of("s0 s1 / g0 g1"))
        self.assertIs(is_paper(talk, ("crown", (0, 1))), False)
        self.assertIs(is_paper(talk, ("crown", (1, 0))), False)


if __name__ == "__main__":
    unittest.main()

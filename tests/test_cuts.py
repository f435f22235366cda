"""uprightletters.cuts: points 41 and 51, and the interface of the file."""

import unittest
from itertools import combinations, islice, product
from unittest.mock import ANY

from tests.orders import all_cuts, done_at, great_rows, one_way_rows, three_pairs_rows, two_hand_rows, wheel_rows
from tests.samples import crossing_rows, fitting_small_rows, many_rows, odd_values, random_rows, ring_rows, rows_of
from uprightletters.cuts import count_cuts, cut_at, cut_number, cuts, is_cut, joined, met, next_cuts, under_way
from uprightletters.errors import BadCut, BadNumber
from uprightletters.talks import Talk, drawn


class TestByHand(unittest.TestCase):

    def test_one_letter(self):
        talk = Talk(rows_of("s0 / g0"))
        self.assertEqual(list(cuts(talk)), [(0, 0), (1, 0), (1, 1)])
        self.assertEqual(count_cuts(talk), 3)
        self.assertEqual([under_way(talk, cut) for cut in cuts(talk)], [(), (0,), ()])
        self.assertEqual([next_cuts(talk, cut) for cut in cuts(talk)], [((1, 0),), ((1, 1),), ()])
        self.assertEqual(list(cuts(Talk(rows_of("g0 / s0")))), [(0, 0), (0, 1), (1, 1)])

    def test_two_letters(self):
        talk = Talk(rows_of("s0 g1 / s1 g0"))
        self.assertEqual(list(cuts(talk)), [(0, 0), (0, 1), (1, 0), (1, 1), (1, 2), (2, 1), (2, 2)])
        self.assertEqual(under_way(talk, (1, 1)), (0, 1))
        self.assertEqual(under_way(talk, (1, 2)), (1,))
        self.assertEqual(next_cuts(talk, (1, 1)), ((1, 2), (2, 1)))
        self.assertEqual(next_cuts(talk, (0, 0)), ((0, 1), (1, 0)))
        self.assertEqual(next_cuts(talk, (1, 0)), ((1, 1),))
        self.assertEqual(met(talk, (1, 2), (2, 1)), (1, 1))
        self.assertEqual(joined(talk, (1, 2), (2, 1)), (2, 2))

    def test_a_talk_without_letters(self):
        for hands in range(1, 7):
            talk, cut = Talk([[]] * hands), (0,) * hands
            self.assertEqual((list(cuts(talk)), count_cuts(talk)), ([cut], 1))
            self.assertEqual((cut_at(talk, 0), cut_number(talk, cut)), (cut, 0))
            self.assertEqual((under_way(talk, cut), next_cuts(talk, cut)), ((), ()))
            self.assertEqual((met(talk, cut, cut), joined(talk, cut, cut)), (cut, cut))

    def test_hands_without_doings(self):
        talk = Talk(rows_of("/ s0 / / g0 /"))
        self.assertEqual(list(cuts(talk)), [(0, 0, 0, 0, 0), (0, 1, 0, 0, 0), (0, 1, 0, 1, 0)])
        self.assertEqual(next_cuts(talk, (0, 1, 0, 0, 0)), ((0, 1, 0, 1, 0),))
        self.assertEqual(under_way(talk, (0, 1, 0, 0, 0)), (0,))

    def test_under_way_ascends(self):
        talk = Talk(rows_of("s3 s1 s2 s0 / g1 g3 g0 g2"))
        self.assertEqual(under_way(talk, (4, 0)), (0, 1, 2, 3))
        self.assertEqual(under_way(talk, (4, 1)), (0, 2, 3))
        self.assertEqual(under_way(talk, (3, 2)), (2,))


class TestAgainstTheWords(unittest.TestCase):

    def check(self, rows):
        talk = Talk(rows)
        wanted = all_cuts(rows)
        self.assertEqual(list(cuts(talk)), wanted)
        self.assertEqual(count_cuts(talk), len(wanted))
        known = set(wanted)
        for number, cut in enumerate(wanted):
            self.assertEqual(cut_at(talk, number), cut)
            self.assertEqual(cut_number(talk, cut), number)
            self.check_cut(talk, cut, known)

    def check_cut(self, talk, cut, known):
        done = done_at(talk.rows, cut)
        sent = {letter for word, letter in done if word == "send"}
        got = {letter for word, letter in done if word == "get"}
        self.assertEqual(under_way(talk, cut), tuple(sorted(sent - got)))
        more = [tuple(count + (hand == other) for other, count in enumerate(cut)) for hand in range(len(cut))]
        self.assertEqual(next_cuts(talk, cut), tuple(sorted(later for later in more if later in known)))
        for found in (cut_at(talk, 0), under_way(talk, cut), next_cuts(talk, cut)):
            self.assertIsInstance(found, tuple)
        self.assertIs(is_cut(talk, cut), True)

    def test_small_talks(self):
        for rows in fitting_small_rows()[::3]:
            self.check(rows)

    def test_middle_talks(self):
        for seed in range(30):
            self.check(random_rows(seed, 2 + seed % 4, 4 + seed % 2))
        self.check(ring_rows(4))
        self.check(crossing_rows(3))

    def test_all_cuts_of_many_talks(self):
        for rows in many_rows()[::9] + two_hand_rows()[::5]:
            self.assertEqual(list(cuts(Talk(rows))), all_cuts(rows))

    def test_each_tuple_of_numbers(self):
        for rows in fitting_small_rows()[::20]:
            talk, known = Talk(rows), set(all_cuts(rows))
            for size in (len(rows) - 1, len(rows), len(rows) + 1):
                for counts in product(range(-1, 5), repeat=size):
                    self.assertIs(is_cut(talk, counts), counts in known)

    def test_lesser_and_greater_numbers_are_cuts(self):
        for rows in fitting_small_rows()[::13] + [ring_rows(4), crossing_rows(3)]:
            talk = Talk(rows)
            for one, other in product(list(cuts(talk)), repeat=2):
                less, more = met(talk, one, other), joined(talk, one, other)
                self.assertEqual(less, tuple(map(min, one, other)))
                self.assertEqual(more, tuple(map(max, one, other)))
                self.assertTrue(is_cut(talk, less) and is_cut(talk, more))
                self.assertIsInstance(less, tuple)
                self.assertIsInstance(more, tuple)


class TestGreatTalks(unittest.TestCase):

    def test_counts(self):
        for rows, wanted in ((one_way_rows(12), 91), (crossing_rows(6), 127), (three_pairs_rows(), 15 ** 3),
                             (wheel_rows(), len(all_cuts(wheel_rows())))):
            self.assertEqual(count_cuts(Talk(rows)), wanted)

    def test_a_chain_has_a_cut_for_each_number_of_doings(self):
        talk = drawn(2, [(k % 2, (k + 1) % 2) for k in range(12)])
        # Each letter is answered, so a hand waits for the next one.
        self.assertEqual(count_cuts(talk), 25)
        self.assertEqual([sum(cut) for cut in cuts(talk)], list(range(25)))

    def test_numbers_there_and_back(self):
        for rows in great_rows()[1::20] + two_hand_rows()[:3]:
            talk = Talk(rows)
            many = count_cuts(talk)
            every = list(cuts(talk))
            self.assertEqual(len(every), many)
            self.assertTrue(all(one < other for one, other in zip(every, every[1:])))
            for number in (0, 1, many // 3, many - 2, many - 1):
                self.assertEqual(cut_at(talk, number), every[number])
                self.assertEqual(cut_number(talk, every[number]), number)
            self.assertEqual(cut_at(talk, 0), (0,) * len(rows))
            self.assertEqual(cut_at(talk, many - 1), tuple(map(len, rows)))

    def test_all_cuts(self):
        for rows in (wheel_rows(), three_pairs_rows()):
            self.assertEqual(list(cuts(Talk(rows))), all_cuts(rows))

    def test_lesser_and_greater_numbers(self):
        for rows in great_rows()[::6]:
            talk = Talk(rows)
            some = list(cuts(talk))[::97]
            for one, other in combinations(some, 2):
                self.assertTrue(is_cut(talk, met(talk, one, other)))
                self.assertTrue(is_cut(talk, joined(talk, one, other)))


class TestGenerator(unittest.TestCase):

    def test_it_looks_at_nothing_before_the_first_item(self):
        for value in odd_values():
            made = cuts(value)
            self.assertIs(iter(made), made)
            with self.assertRaises(Exception):
                next(made)
            cuts(value).close()
            cuts(talk=value)

    def test_it_looks_when_the_first_item_is_asked_for(self):
        class Late:
            rows, many, places = ((),), 0, {}

        late = Late()
        made = cuts(late)
        late.rows = ((), ())
        self.assertEqual(next(made), (0, 0))

    def test_its_first_item_and_no_more(self):
        for rows in ([[]], rows_of("s0 / g0"), wheel_rows()):
            made = cuts(Talk(rows))
            self.assertEqual(next(made), (0,) * len(rows))
            made.close()
            self.assertEqual(list(made), [])

    def test_its_end(self):
        made = cuts(Talk([[]]))
        self.assertEqual(next(made), (0,))
        with self.assertRaises(StopIteration):
            next(made)

    def test_two_beside_each_other(self):
        talk = Talk(rows_of("s0 g1 / s1 g0"))
        one, other = cuts(talk), cuts(talk)
        self.assertEqual(list(islice(one, 3)), list(islice(other, 3)))
        self.assertEqual(count_cuts(talk), 7)
        self.assertEqual(list(one), list(other))


class TestRefused(unittest.TestCase):

    def setUp(self):
        self.talk = Talk(rows_of("s0 g1 / g0 s1"))
        self.values = odd_values() + [
            [0, 0], [1, 1], (), (0,), (0, 0, 0), (0, 1), (1, 2, 0), (2, 0), (2, 1), (0, 2), (3, 2), (2, 3), (3, 3),
            (-1, 0), (0, -1), (1, -1), (-1, -1), (False, 0), (0, False), (False, False), (True, 0), (1, True),
            (True, True), (2, True), (None, 0), (1, None), ("0", "0"), ("1", 0), (1, b"1"), ([0], [0]), ((0,), 0),
            (0, (0,)), (ANY, 0), (1, ANY), ANY, (10 ** 999, 0), (1, 10 ** 29), (-10 ** 999, 0), "00", b"\x00\x00",
            {0: 0, 1: 0}, range(2), {0, 1}, (0,) * 100000, self.talk, (self.talk, 0), ((0, 0),), [(0, 0)]]

    def test_values_that_are_no_cuts(self):
        for value in self.values:
            with self.subTest(str(value)[:50]):
                self.assertIs(is_cut(self.talk, value), False)

    def test_bad_cut_has_the_very_value(self):
        for value in self.values:
            for call in (lambda: cut_number(self.talk, value), lambda: under_way(self.talk, value),
                         lambda: next_cuts(self.talk, value), lambda: met(self.talk, value, (0, 0)),
                         lambda: met(self.talk, (1, 0), value), lambda: joined(self.talk, value, (0, 0)),
                         lambda: joined(self.talk, (1, 0), value), lambda: met(self.talk, value, value),
                         lambda: joined(self.talk, value, value)):
                with self.subTest(str(value)[:50]):
                    with self.assertRaises(BadCut) as caught:
                        call()
                    self.assertIs(caught.exception.value, value)

    def test_of_one_then_of_other(self):
        pairs = [([0, 0], (9, 9)), ((9, 9), [0, 0]), ([0, 0], [0, 0]), (None, True)]
        for one, other in pairs:
            for function in (met, joined):
                with self.assertRaises(BadCut) as caught:
                    function(self.talk, one, other)
                self.assertIs(caught.exception.value, one)
                with self.assertRaises(BadCut) as caught:
                    function(other=other, one=one, talk=self.talk)
                self.assertIs(caught.exception.value, one)

    def test_numbers_that_are_none(self):
        for rows in ([[]], rows_of("s0 g1 / g0 s1"), three_pairs_rows()):
            talk = Talk(rows)
            many = count_cuts(talk)
            for value in [-1, many, many + 1, True, False, None, "0", "", b"0", (0,), [0], (), 10 ** 29, -10 ** 29,
                          10 ** 999, talk, ANY, object()]:
                with self.subTest(value):
                    with self.assertRaises(BadNumber) as caught:
                        cut_at(talk, value)
                    self.assertIs(caught.exception.value, value)

    def test_cuts_of_other_talks(self):
        one, other = Talk(rows_of("s0 / g0")), Talk(rows_of("g0 / s0"))
        self.assertIs(is_cut(one, (1, 0)), True)
        self.assertIs(is_cut(other, (1, 0)), False)
        self.assertIs(is_cut(other, (0, 1)), True)
        with self.assertRaises(BadCut):
            under_way(one, (0, 1))


if __name__ == "__main__":
    unittest.main()

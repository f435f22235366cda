"""uprightletters.rooms: points 42 and 52, and the interface of the file."""

import unittest

from tests import test_runs
from tests.orders import (all_runs, crossed_break_rows, great_rows, is_in_order, middle_rows, one_way_rows, ringed_rows,
                          room_count, rooms_by_layers, runs_among_permutations, three_pairs_rows, two_hand_rows,
                          wheel_rows)
from tests.samples import (crossing_rows, fitting_small_rows, g, least_crown_size, many_rows, near_upright_rows,
                           ring_rows, rows_of, s)
from tests.test_runs import run_of
from uprightletters.errors import BadRun, TalkError
from uprightletters.rooms import room_run, rooms, rooms_of
from uprightletters.runs import count_runs, is_run, run_at, runs
from uprightletters.talks import Talk, drawn
from uprightletters.upright import is_upright


class TestByHand(unittest.TestCase):

    def test_one_letter(self):
        talk = Talk(rows_of("s0 / g0"))
        self.assertEqual(rooms_of(talk, (s(0), g(0))), 1)
        self.assertEqual((rooms(talk), room_run(talk)), (1, (s(0), g(0))))

    def test_rooms_of_runs(self):
        talk = Talk(rows_of("s0 s1 s2 / g0 g1 g2"))
        for text, wanted in (("s0 g0 s1 g1 s2 g2", 1), ("s0 s1 g0 g1 s2 g2", 2), ("s0 g0 s1 s2 g1 g2", 2),
                             ("s0 s1 g0 s2 g1 g2", 2), ("s0 s1 s2 g0 g1 g2", 3)):
            with self.subTest(text):
                self.assertEqual(rooms_of(talk, run_of(text)), wanted)

    def test_the_most_stands_anywhere(self):
        talk = Talk(rows_of("s0 s1 s2 / g0 g1 g2 / s3 s4 / g3 g4"))
        self.assertEqual(rooms_of(talk, run_of("s0 s1 s3 g0 g1 g3 s2 g2 s4 g4")), 3)
        self.assertEqual(rooms_of(talk, run_of("s0 g0 s1 s3 s4 g1 g3 g4 s2 g2")), 3)
        self.assertEqual(rooms_of(talk, run_of("s0 g0 s1 g1 s3 g3 s4 s2 g2 g4")), 2)
        self.assertEqual(rooms_of(talk, run_of("s0 g0 s1 g1 s3 g3 s4 g4 s2 g2")), 1)
        self.assertEqual(rooms_of(talk, run_of("s3 s0 s4 s1 s2 g0 g1 g2 g3 g4")), 5)

    def test_rooms_of_talks(self):
        for rows, wanted in ((rows_of("s0 g1 / s1 g0"), 2), (rows_of("s0 s1 / g1 g0"), 2),
                             (rows_of("s0 s1 / g0 g1"), 1), (rows_of("s0 s1 s2 / g2 g1 g0"), 3),
                             (rows_of("s0 s1 / g1 s2 / g2 g0"), 2),
                             (ring_rows(3), 2), (ring_rows(6), 2), (crossing_rows(2), 3), (one_way_rows(12), 1),
                             (crossing_rows(6), 7), (three_pairs_rows(), 1), (crossed_break_rows(), 8),
                             ([[s(k) for k in range(12)], [g(11 - k) for k in range(12)]], 12)):
            talk = Talk(rows)
            self.assertEqual(rooms(talk), wanted)
            self.assertEqual(rooms_of(talk, room_run(talk)), wanted)

    def test_letters_that_are_drawn_one_behind_another(self):
        for hands in range(2, 7):
            talk = drawn(hands, [(k % hands, (k + 1) % hands) for k in range(12)])
            self.assertEqual((rooms(talk), rooms_of(talk, room_run(talk))), (1, 1))

    def test_a_talk_without_letters(self):
        for hands in range(1, 7):
            talk = Talk([[]] * hands)
            self.assertEqual((rooms_of(talk, ()), rooms(talk), room_run(talk)), (0, 0, ()))

    def test_hands_without_doings(self):
        talk = Talk(rows_of("/ g0 / / s0 /"))
        self.assertEqual((rooms(talk), room_run(talk)), (1, (s(0), g(0))))
        self.assertEqual(rooms_of(talk, (s(0), g(0))), 1)

    def test_kinds_of_results(self):
        for rows in ([[]], rows_of("s0 g1 / s1 g0"), wheel_rows()):
            talk = Talk(rows)
            self.assertIs(type(rooms(talk)), int)
            self.assertIs(type(room_run(talk)), tuple)
            self.assertIs(type(rooms_of(talk, room_run(talk))), int)


class TestAgainstTheWords(unittest.TestCase):

    def check(self, rows, known):
        """Compare with all runs, which are found by a slow reading."""
        talk = Talk(rows)
        counts = [room_count(run) for run in known]
        self.assertEqual([rooms_of(talk, run) for run in known], counts)
        self.assertEqual(rooms(talk), min(counts))
        best = room_run(talk)
        self.assertIn(best, known)
        self.assertEqual(room_count(best), min(counts))

    def test_all_orders_of_small_talks(self):
        for rows in fitting_small_rows()[::25]:
            self.check(rows, runs_among_permutations(rows))

    def test_small_talks(self):
        for rows in fitting_small_rows()[::2]:
            self.check(rows, all_runs(rows))

    def test_middle_talks(self):
        for rows in middle_rows() + [ring_rows(4), crossing_rows(2)]:
            self.check(rows, all_runs(rows))
        for seed in range(6):
            rows = near_upright_rows(seed, 3, 4)
            self.check(rows, all_runs(rows))

    def test_rooms_against_the_runs_of_the_package(self):
        for rows in fitting_small_rows()[1::20]:
            talk = Talk(rows)
            self.assertEqual(rooms(talk), min(rooms_of(talk, run) for run in runs(talk)))

    def check_by_layers(self, rows):
        talk = Talk(rows)
        wanted = rooms_by_layers(rows)
        self.assertEqual(rooms(talk), wanted)
        best = room_run(talk)
        self.assertEqual(sorted(best), sorted(doing for row in rows for doing in row))
        self.assertTrue(is_in_order(rows, best))
        self.assertIs(is_run(talk, best), True)
        self.assertEqual((rooms_of(talk, best), room_count(best)), (wanted, wanted))

    def test_many_talks(self):
        for rows in many_rows()[::7] + two_hand_rows()[::3]:
            self.check_by_layers(rows)

    def test_great_talks(self):
        for rows in [wheel_rows()] + [ringed_rows(size) for size in range(2, 7)] + great_rows()[8::12]:
            self.check_by_layers(rows)

    def test_runs_of_great_talks(self):
        for rows in great_rows()[::8]:
            talk = Talk(rows)
            many = count_runs(talk)
            for number in (0, many // 3, many // 2, many - 1):
                run = run_at(talk, number)
                self.assertEqual(rooms_of(talk, run), room_count(run))
                self.assertLessEqual(rooms(talk), room_count(run))


class TestOneRoom(unittest.TestCase):

    def check(self, rows):
        talk = Talk(rows)
        self.assertEqual(rooms(talk) == 1, is_upright(talk))
        self.assertEqual(rooms(talk) == 1, least_crown_size(rows) is None)
        return rooms(talk)

    def test_small_talks(self):
        self.assertEqual({self.check(rows) for rows in fitting_small_rows()[::2]}, {1, 2, 3})

    def test_many_talks(self):
        found = {self.check(rows) for rows in many_rows()[::3] if any(rows)}
        self.assertLessEqual({1, 2, 3, 4, 5}, found)
        self.assertNotIn(0, found)

    def test_great_talks(self):
        self.assertLessEqual({1, 2, 3, 4, 8}, {self.check(rows) for rows in great_rows()[::2]})


class TestRefused(test_runs.TestRefused):
    """Whatever run_number refuses is refused here, at the same place."""

    def assert_place(self, place, talk, value):
        super().assert_place(place, talk, value)
        with self.assertRaises(BadRun) as caught:
            rooms_of(talk, value)
        self.assertEqual(repr(caught.exception.place), repr(place))

    def test_it_is_a_talk_error(self):
        with self.assertRaises(TalkError):
            rooms_of(Talk([[]]), None)


if __name__ == "__main__":
    unittest.main()

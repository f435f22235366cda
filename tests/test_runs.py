"""uprightletters.runs: points 40 and 50, and the interface of the file."""

import unittest
from itertools import islice, product
from math import factorial
from random import Random
from unittest.mock import ANY

from tests.orders import (all_runs, count_orders, crossed_break_rows, great_rows, is_in_order, middle_rows,
                          one_way_rows, runs_among_permutations, three_pairs_rows, two_hand_rows, wheel_rows)
from tests.samples import crossing_rows, fitting_small_rows, g, many_rows, odd_values, ring_rows, rows_of, s
from uprightletters.cuts import is_cut, next_cuts
from uprightletters.errors import BadNumber, BadRun
from uprightletters.runs import count_runs, is_run, run_at, run_number, runs
from uprightletters.talks import Talk, drawn


def run_of(text):
    """A run from a short form: "s0 g0"."""
    return tuple(rows_of(text)[0])


def ways(talk, cut):
    """All ways from a cut to the end, as tuples of cuts."""
    nexts = next_cuts(talk, cut)
    if not nexts:
        return [(cut,)]
    return [(cut, *way) for later in nexts for way in ways(talk, later)]


def told_by(talk, way):
    """The doings that a way through cuts does."""
    hands = [[a < b for a, b in zip(one, other)].index(True) for one, other in zip(way, way[1:])]
    return tuple(talk.rows[hand][cut[hand]] for hand, cut in zip(hands, way))


def cuts_of(talk, run):
    """The cuts that a run goes through."""
    counts = [0] * len(talk.rows)
    found = [tuple(counts)]
    for doing in run:
        counts[[doing in row for row in talk.rows].index(True)] += 1
        found.append(tuple(counts))
    return found


class TestByHand(unittest.TestCase):

    def test_one_letter(self):
        talk = Talk(rows_of("s0 / g0"))
        self.assertEqual(list(runs(talk)), [(s(0), g(0))])
        self.assertEqual(count_runs(talk), 1)
        self.assertEqual((run_at(talk, 0), run_number(talk, (s(0), g(0)))), ((s(0), g(0)), 0))

    def test_two_letters(self):
        talk = Talk(rows_of("s0 g1 / s1 g0"))
        wanted = [run_of(text) for text in ("s0 s1 g0 g1", "s0 s1 g1 g0", "s1 s0 g0 g1", "s1 s0 g1 g0")]
        self.assertEqual(list(runs(talk)), wanted)
        self.assertEqual(count_runs(talk), 4)
        talk = Talk(rows_of("s0 s1 / g0 g1"))
        self.assertEqual(list(runs(talk)), [run_of("s0 g0 s1 g1"), run_of("s0 s1 g0 g1")])

    def test_letters_are_ordered_as_numbers(self):
        talk = Talk([[s(k)] for k in (10, 9)] + [[s(k) for k in range(9)] + [s(11)], [g(k) for k in range(12)]])
        self.assertEqual(next(runs(talk))[:6], (s(0), g(0), s(1), g(1), s(2), g(2)))
        self.assertEqual(run_at(talk, 0)[-6:], (s(9), g(9), s(10), g(10), s(11), g(11)))
        self.assertEqual(run_at(talk, count_runs(talk) - 1)[:2], (s(10), s(9)))

    def test_a_talk_without_letters(self):
        for hands in range(1, 7):
            talk = Talk([[]] * hands)
            self.assertEqual((list(runs(talk)), count_runs(talk)), ([()], 1))
            self.assertEqual((run_at(talk, 0), run_number(talk, ())), ((), 0))
            self.assertIs(is_run(talk, ()), True)

    def test_hands_without_doings(self):
        talk = Talk(rows_of("/ g0 / / s0 /"))
        self.assertEqual(list(runs(talk)), [(s(0), g(0))])
        self.assertIs(is_run(talk, (s(0), g(0))), True)
        self.assertIs(is_run(talk, (g(0), s(0))), False)


class TestAgainstTheWords(unittest.TestCase):

    def check(self, rows, wanted):
        talk = Talk(rows)
        self.assertEqual(list(runs(talk)), wanted)
        self.assertEqual(count_runs(talk), len(wanted))
        for number, run in list(enumerate(wanted))[::1 + len(wanted) // 40]:
            self.assertEqual(run_at(talk, number), run)
            self.assertEqual(run_number(talk, run), number)
            self.assertIs(is_run(talk, run), True)
        self.assertEqual(run_at(talk, len(wanted) - 1), wanted[-1])

    def test_all_orders_of_small_talks(self):
        for rows in fitting_small_rows()[::9]:
            self.check(rows, runs_among_permutations(rows))

    def test_small_talks(self):
        for rows in fitting_small_rows()[::2]:
            self.check(rows, all_runs(rows))

    def test_middle_talks(self):
        for rows in middle_rows() + [ring_rows(3), crossing_rows(3)]:
            self.check(rows, all_runs(rows))

    def test_each_order_of_small_talks(self):
        for rows in fitting_small_rows()[::40]:
            talk, known = Talk(rows), set(all_runs(rows))
            doings = [doing for row in rows for doing in row]
            # Two letters: each tuple of doings; three: those that are near a run.
            if talk.many == 2:
                for told in product(doings, repeat=4):
                    self.assertIs(is_run(talk, told), told in known)
            for run in known:
                for one, other in product(range(len(run)), repeat=2):
                    told = list(run)
                    told[one], told[other] = told[other], told[one]
                    self.assertIs(is_run(talk, tuple(told)), tuple(told) in known)

    def test_counts_of_many_talks(self):
        for rows in many_rows()[::9] + two_hand_rows()[::4]:
            self.assertEqual(count_runs(Talk(rows)), count_orders(rows))


class TestRunsAndCuts(unittest.TestCase):

    def test_a_run_goes_through_cuts(self):
        for rows in fitting_small_rows()[::9] + [ring_rows(3)]:
            talk = Talk(rows)
            for run in runs(talk):
                through = cuts_of(talk, run)
                self.assertTrue(all(is_cut(talk, cut) for cut in through))
                self.assertTrue(all(b in next_cuts(talk, a) for a, b in zip(through, through[1:])))
                self.assertEqual((through[0], through[-1]), ((0,) * len(rows), tuple(map(len, rows))))

    def test_each_way_through_cuts_is_a_run(self):
        for rows in fitting_small_rows()[::9] + [ring_rows(3)]:
            talk = Talk(rows)
            told = [told_by(talk, way) for way in ways(talk, (0,) * len(rows))]
            self.assertEqual(sorted(told), list(runs(talk)))

    def test_runs_of_great_talks(self):
        for rows in great_rows()[::10]:
            talk = Talk(rows)
            through = cuts_of(talk, run_at(talk, count_runs(talk) // 2))
            self.assertTrue(all(is_cut(talk, cut) for cut in through))
            self.assertTrue(all(b in next_cuts(talk, a) for a, b in zip(through, through[1:])))


class TestGreatTalks(unittest.TestCase):

    def test_counts(self):
        catalan = factorial(24) // factorial(12) // factorial(13)
        self.assertEqual(count_runs(Talk(one_way_rows(12))), catalan)
        self.assertEqual(count_runs(Talk(three_pairs_rows())), factorial(24) // factorial(8) ** 3 * 14 ** 3)
        self.assertEqual(count_runs(drawn(2, [(k % 2, (k + 1) % 2) for k in range(12)])), 1)
        for rows in (crossing_rows(6), wheel_rows(), crossed_break_rows()):
            self.assertEqual(count_runs(Talk(rows)), count_orders(rows))
        for rows in great_rows()[4::12]:
            self.assertEqual(count_runs(Talk(rows)), count_orders(rows))

    def test_numbers_there_and_back(self):
        source = Random(5)
        for rows in great_rows()[1::20] + two_hand_rows()[:3]:
            talk = Talk(rows)
            many = count_runs(talk)
            numbers = sorted({0, many // 3, many - 1} | {source.randrange(many) for turn in range(2)})
            found = [run_at(talk, number) for number in numbers]
            self.assertEqual(found, sorted(found))
            for number, run in zip(numbers, found):
                self.assertTrue(is_in_order(rows, run))
                self.assertEqual(sorted(run), sorted(doing for row in rows for doing in row))
                self.assertIs(is_run(talk, run), True)
                self.assertEqual(run_number(talk, run), number)

    def test_first_and_last(self):
        for rows in great_rows()[::24] + [crossing_rows(6)]:
            talk = Talk(rows)
            many = count_runs(talk)
            first = list(islice(runs(talk), 60))
            self.assertEqual(first, sorted(set(first)))
            for number in (1, 59):
                self.assertEqual(run_at(talk, number), first[number])
                self.assertEqual(run_number(talk, first[number]), number)
            self.assertGreater(run_at(talk, many - 1), run_at(talk, many - 2))

    def test_all_runs_of_a_long_row(self):
        rows = one_way_rows(7)
        found = list(runs(Talk(rows)))
        self.assertEqual(len(found), 429)
        self.assertEqual(found, sorted(set(found)))
        self.assertTrue(all(is_in_order(rows, run) for run in found))


class TestGenerator(unittest.TestCase):

    def test_it_looks_at_nothing_before_the_first_item(self):
        for value in odd_values():
            made = runs(value)
            self.assertIs(iter(made), made)
            with self.assertRaises(Exception):
                next(made)
            runs(value).close()
            runs(talk=value)

    def test_it_looks_when_the_first_item_is_asked_for(self):
        class Late:
            rows, many, places = None, None, None

        late, talk = Late(), Talk(rows_of("s0 / g0"))
        made = runs(late)
        late.rows, late.many, late.places = talk.rows, talk.many, talk.places
        self.assertEqual(next(made), (s(0), g(0)))

    def test_its_first_item_and_no_more(self):
        for rows in ([[]], rows_of("s0 / g0"), wheel_rows(), three_pairs_rows(), one_way_rows(12)):
            talk = Talk(rows)
            made = runs(talk)
            self.assertEqual(next(made), run_at(talk, 0))
            made.close()
            self.assertEqual(list(made), [])

    def test_its_end(self):
        for rows, many in (([[]], 1), (rows_of("s0 g1 / s1 g0"), 4)):
            made = runs(Talk(rows))
            self.assertEqual(len(list(islice(made, many))), many)
            with self.assertRaises(StopIteration):
                next(made)

    def test_two_beside_each_other(self):
        talk = Talk(wheel_rows())
        one, other = runs(talk), runs(talk)
        self.assertEqual([next(one) for turn in range(5)], [next(other) for turn in range(5)])
        self.assertEqual(run_number(talk, next(one)), 5)
        self.assertEqual(run_number(talk, next(other)), 5)


class TestRefused(unittest.TestCase):

    def assert_place(self, place, talk, value):
        with self.assertRaises(BadRun) as caught:
            run_number(talk, value)
        self.assertEqual(repr(caught.exception.place), repr(place))
        self.assertIs(is_run(talk, value), False)

    def test_no_tuple_of_as_many_items(self):
        talk = Talk(rows_of("s0 g1 / g0 s1"))
        run = run_of("s0 g0 s1 g1")
        self.assertIs(is_run(talk, run), True)
        values = odd_values() + [(), [], list(run), run[:-1], run + run[:1], run + run, run * 9999, (run,), [run],
                                 run[:1], talk, ANY, "s0g0", dict.fromkeys(run), set(run), (run, 0), talk.rows]
        for value in values:
            with self.subTest(str(value)[:50]):
                self.assert_place(None, talk, value)

    def test_no_value_but_the_empty_tuple_without_letters(self):
        talk = Talk([[], []])
        for value in odd_values() + [[], (None,), ((),), (s(0), g(0)), talk]:
            self.assert_place(None, talk, value)

    def test_the_first_item_that_cannot_be_done(self):
        talk = Talk(rows_of("s0 s1 g2 / g0 s2 g1"))
        for text, place in (("s1 s0 g0 s2 g2 g1", 0), ("g0 s0 s1 s2 g2 g1", 0), ("s0 s1 g1 g0 s2 g2", 2),
                            ("s0 s0 s1 g0 s2 g2", 1), ("s0 s1 g2 g0 s2 g1", 2), ("s0 s1 g0 g0 s2 g1", 3),
                            ("s0 s1 g0 g1 s2 g2", 3), ("s0 s1 g0 s2 g2 g2", 5), ("s0 s1 g0 s2 g1 g1", 5),
                            ("s0 s1 g0 s2 g1 g3", 5), ("s0 s3 g0 s2 g1 g2", 1), ("s0 g0 g1 s1 s2 g2", 2),
                            ("g2 s0 s1 g0 s2 g1", 0), ("s2 s0 s1 g0 g2 g1", 0), ("s0 g0 s2 g2 s1 g1", 3)):
            with self.subTest(text):
                self.assert_place(place, talk, run_of(text))

    def test_items_that_are_no_doings(self):
        talk = Talk(rows_of("s0 g1 / g0 s1"))
        run = run_of("s0 g0 s1 g1")
        values = odd_values() + [
            [], (), ["send", 0], ("send",), ("send", 0, 0), s(2), g(2), s(-1), g(-1), s(12), s(True), s(False),
            g(True), g(False), s(None), s("0"), s([0]), s((0,)), s(10 ** 999), ("Send", 0), ("got", 0), ("", 0),
            (b"send", 0), (None, 0), (["send"], 0), (0, "send"), (s(0), 0), (ANY, 0), s(ANY), ANY, talk, (talk, 0),
            s(talk), [[]], "s0", run]
        for value in values:
            for place in range(4):
                with self.subTest(value=value, place=place):
                    self.assert_place(place, talk, run[:place] + (value,) + run[place + 1:])
                    self.assert_place(place, talk, run[:place] + (value,) * (4 - place))

    def test_places_of_all_tuples_of_doings(self):
        for rows in (rows_of("s0 g1 / s1 g0"), rows_of("s0 s1 / g1 g0"), rows_of("s0 g1 / g0 / s1")):
            talk = Talk(rows)
            known = all_runs(rows)
            starts = {run[:size] for run in known for size in range(5)}
            for told in product([s(0), g(0), s(1), g(1)], repeat=4):
                if told not in known:
                    place = [told[:size + 1] in starts for size in range(4)].index(False)
                    self.assert_place(place, talk, told)

    def test_numbers_that_are_none(self):
        for rows in ([[]], rows_of("s0 g1 / s1 g0"), one_way_rows(12), three_pairs_rows()):
            talk = Talk(rows)
            many = count_runs(talk)
            for value in [-1, many, many + 1, -many, True, False, None, "0", "", b"0", (0,), [0], (), 10 ** 29,
                          -10 ** 29, 10 ** 999, talk, ANY, object()]:
                with self.subTest(value):
                    with self.assertRaises(BadNumber) as caught:
                        run_at(talk, value)
                    self.assertIs(caught.exception.value, value)

    def test_runs_of_other_talks(self):
        one, other = Talk(rows_of("s0 s1 / g0 g1")), Talk(rows_of("s1 s0 / g0 g1"))
        self.assertIs(is_run(one, run_of("s0 s1 g0 g1")), True)
        self.assert_place(0, other, run_of("s0 s1 g0 g1"))
        self.assert_place(0, one, run_of("s1 s0 g0 g1"))


if __name__ == "__main__":
    unittest.main()

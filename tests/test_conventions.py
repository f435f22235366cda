"""Points 0 to 4: what holds of all that is there."""

import copy
import importlib
import inspect
import pkgutil
import unittest
from itertools import islice

import uprightletters
from tests.samples import crossing_rows, g, many_rows, odd_values, ring_rows, rows_of, s
from uprightletters import errors, talks, upright
from uprightletters.bench import Bench, tried
from uprightletters.cuts import count_cuts, cut_at, cut_number, cuts, is_cut, joined, met, next_cuts, under_way
from uprightletters.errors import BadCut, BadDoing, BadNumber, BadRun, BadTalk, BadText, TooGreat, Waits
from uprightletters.kinds import breaks, causal_break, is_causal, is_single, kind, single_break
from uprightletters.likes import count_kinds, like_talks, straight
from uprightletters.rooms import room_run, rooms, rooms_of
from uprightletters.runs import count_runs, is_run, run_at, run_number, runs
from uprightletters.talks import Talk, clock, drawn, is_ahead
from uprightletters.texts import read_talk, talk_text
from uprightletters.upright import crown, is_paper, is_upright, moments, paper

PARAMETERS = {
    "talks": {"Talk": ["rows"], "is_ahead": ["talk", "one", "other"], "clock": ["talk", "doing"],
              "drawn": ["hands", "pairs"]},
    "upright": {"is_upright": ["talk"], "moments": ["talk"], "crown": ["talk"], "paper": ["talk"],
                "is_paper": ["talk", "value"]},
    "kinds": {"breaks": ["talk"], "causal_break": ["talk"], "single_break": ["talk"], "is_causal": ["talk"],
              "is_single": ["talk"], "kind": ["talk"]},
    "cuts": {"is_cut": ["talk", "value"], "count_cuts": ["talk"], "cuts": ["talk"], "cut_at": ["talk", "number"],
             "cut_number": ["talk", "cut"], "under_way": ["talk", "cut"], "next_cuts": ["talk", "cut"],
             "met": ["talk", "one", "other"], "joined": ["talk", "one", "other"]},
    "runs": {"is_run": ["talk", "value"], "count_runs": ["talk"], "runs": ["talk"], "run_at": ["talk", "number"],
             "run_number": ["talk", "run"]},
    "rooms": {"rooms_of": ["talk", "run"], "rooms": ["talk"], "room_run": ["talk"]},
    "likes": {"like_talks": ["talk"], "count_kinds": ["talk"], "straight": ["talk"]},
    "texts": {"talk_text": ["talk"], "read_talk": ["text"]},
    "bench": {"Bench": ["talk"], "tried": ["bench", "function"]}}

CONSTANTS = {"talks": {"MOST_HANDS": 6, "MOST_LETTERS": 12}, "likes": {"MOST_LIKE": 4},
             "kinds": {"KINDS": ("upright", "causal", "single", "free")}}


class TestInterface(unittest.TestCase):

    def test_parameter_names(self):
        for file, functions in PARAMETERS.items():
            module = importlib.import_module("uprightletters." + file)
            for name, wanted in functions.items():
                with self.subTest(name):
                    function = getattr(module, name)
                    self.assertEqual(list(inspect.signature(function).parameters), wanted)
                    self.assertEqual(function.__module__, "uprightletters." + file)

    def test_arguments_by_name_in_another_order(self):
        talk = Talk(rows=[[s(0)], [g(0)]])
        self.assertEqual(drawn(pairs=[(0, 1)], hands=2), talk)
        self.assertIs(is_ahead(other=g(0), one=s(0), talk=talk), True)
        self.assertIs(is_ahead(one=g(0), talk=talk, other=s(0)), False)
        self.assertEqual(clock(doing=g(0), talk=talk), (1, 1))
        self.assertEqual((talk.sender(letter=0), talk.getter(letter=0)), (0, 1))
        self.assertIs(is_upright(talk=talk), True)
        self.assertEqual((moments(talk=talk), crown(talk=talk), paper(talk=talk)), ((0,), None, ("moments", (0,))))
        self.assertIs(is_paper(value=("moments", (0,)), talk=talk), True)

    def test_arguments_of_kinds_by_name(self):
        talk = Talk(rows=rows_of("s0 s1 / g1 g0"))
        self.assertEqual((breaks(talk=talk), causal_break(talk=talk)), ([(0, 1)], (0, 1)))
        self.assertEqual((single_break(talk=talk), kind(talk=talk)), ((0, 1), "free"))
        self.assertEqual((is_causal(talk=talk), is_single(talk=talk)), (False, False))

    def test_arguments_of_cuts_and_runs_by_name_in_another_order(self):
        talk, run = Talk(rows=rows_of("s0 g1 / s1 g0")), (s(1), s(0), g(0), g(1))
        self.assertIs(is_cut(value=(1, 0), talk=talk), True)
        self.assertEqual((count_cuts(talk=talk), len(list(cuts(talk=talk)))), (7, 7))
        self.assertEqual((cut_at(number=2, talk=talk), cut_number(cut=(1, 0), talk=talk)), ((1, 0), 2))
        self.assertEqual((under_way(cut=(1, 0), talk=talk), next_cuts(cut=(1, 0), talk=talk)), ((0,), ((1, 1),)))
        self.assertEqual(met(other=(0, 1), one=(1, 0), talk=talk), (0, 0))
        self.assertEqual(joined(one=(0, 1), other=(1, 0), talk=talk), (1, 1))
        self.assertIs(is_run(value=run, talk=talk), True)
        self.assertEqual((count_runs(talk=talk), list(runs(talk=talk))[2]), (4, run))
        self.assertEqual((run_at(number=2, talk=talk), run_number(run=run, talk=talk)), (run, 2))

    def test_arguments_of_rooms_likes_and_texts_by_name_in_another_order(self):
        talk = Talk(rows=rows_of("s0 g1 / s1 g0"))
        self.assertEqual((rooms_of(run=(s(1), s(0), g(0), g(1)), talk=talk), rooms(talk=talk)), (2, 2))
        self.assertEqual(rooms_of(run=room_run(talk=talk), talk=talk), 2)
        self.assertEqual((len(like_talks(talk=talk)), count_kinds(talk=talk)), (3, (2, 1, 0, 0)))
        self.assertEqual(straight(talk=talk), (1, ((g(1), s(0)), (s(1), g(0)))))
        self.assertEqual((talk_text(talk=talk), read_talk(text="s0 g1 / s1 g0")), ("s0 g1 / s1 g0", talk))

    def test_constants(self):
        for file, constants in CONSTANTS.items():
            module = importlib.import_module("uprightletters." + file)
            for name, wanted in constants.items():
                self.assertEqual(getattr(module, name), wanted)
                self.assertIs(type(getattr(module, name)), type(wanted))

    def test_errors_by_name_in_another_order(self):
        for call, wanted in ((lambda: drawn(pairs=None, hands=True), BadNumber), (lambda: Talk(rows=None), BadTalk),
                             (lambda: clock(doing=None, talk=Talk([[]])), BadDoing),
                             (lambda: Talk([[]]).sender(letter=0), BadNumber),
                             (lambda: Talk([[]]).getter(letter=0), BadNumber),
                             (lambda: cut_at(number=1, talk=Talk([[]])), BadNumber),
                             (lambda: cut_number(cut=[0], talk=Talk([[]])), BadCut),
                             (lambda: under_way(cut=[0], talk=Talk([[]])), BadCut),
                             (lambda: next_cuts(cut=[0], talk=Talk([[]])), BadCut),
                             (lambda: met(other=(0,), one=[0], talk=Talk([[]])), BadCut),
                             (lambda: joined(other=(0,), one=[0], talk=Talk([[]])), BadCut),
                             (lambda: run_at(number=1, talk=Talk([[]])), BadNumber),
                             (lambda: run_number(run=[], talk=Talk([[]])), BadRun),
                             (lambda: rooms_of(run=[], talk=Talk([[]])), BadRun),
                             (lambda: like_talks(talk=Talk(ring_rows(5))), TooGreat),
                             (lambda: count_kinds(talk=Talk(ring_rows(5))), TooGreat),
                             (lambda: straight(talk=Talk(ring_rows(5))), TooGreat),
                             (lambda: read_talk(text=None), BadText),
                             (lambda: Bench(talk=Talk([[]])).do(hand=0), BadNumber),
                             (lambda: Bench(talk=Talk([[]])).do_all(hands=0), BadNumber)):
            with self.assertRaises(wanted):
                call()

    def test_no_file_of_the_package_fails_to_load(self):
        for found in pkgutil.iter_modules(uprightletters.__path__):
            importlib.import_module("uprightletters." + found.name)


class TestNothingChanges(unittest.TestCase):

    def calls(self, talk):
        doings = [doing for row in talk.rows for doing in row]
        found = [len(talk), talk.many, talk.rows, is_upright(talk), moments(talk), crown(talk), paper(talk)]
        found += [clock(talk, doing) for doing in doings]
        found += [is_ahead(talk, one, other) for one in doings for other in doings[::3]]
        found += [breaks(talk), causal_break(talk), single_break(talk), is_causal(talk), is_single(talk), kind(talk)]
        found += self.calls_of_cuts(talk) + self.calls_of_runs(talk) + self.calls_of_benches(talk)
        found += [rooms(talk), room_run(talk), rooms_of(talk, room_run(talk)), talk_text(talk)]
        found += [read_talk(talk_text(talk)).rows]
        if talk.many <= 4:
            found += [like_talks(talk), count_kinds(talk), straight(talk)]
        return found + [(talk.sender(letter), talk.getter(letter)) for letter in range(talk.many)]

    def calls_of_cuts(self, talk):
        many = count_cuts(talk)
        one, other = cut_at(talk, many // 2), cut_at(talk, many // 3)
        found = [many, one, other, list(islice(cuts(talk), 50)), cut_number(talk, one), is_cut(talk, one)]
        return found + [under_way(talk, one), next_cuts(talk, one), met(talk, one, other), joined(talk, one, other)]

    def calls_of_runs(self, talk):
        many = count_runs(talk)
        run = run_at(talk, many // 2)
        return [many, run, list(islice(runs(talk), 50)), run_number(talk, run), is_run(talk, run)]

    def calls_of_benches(self, talk):
        bench = Bench(talk)
        hands = [[doing in row for row in talk.rows].index(True) for doing in run_at(talk, 0)]
        found = [bench.do(hand) for hand in hands[:3]] + [bench.do_all(hands[3:])]
        found += [bench.undo() for hand in hands[::2]] + [bench.redo() for hand in hands[::3]]
        found += [tried(bench, lambda same: [same.undo() for doing in same.doings()])]
        return found + [bench.now, len(bench), bench.doings(), bench.under_way(), bench.waiting()]

    def test_equal_calls_return_equal_results(self):
        for rows in many_rows()[::10]:
            talk, same = Talk(rows), Talk(copy.deepcopy(rows))
            first = self.calls(talk)
            self.assertEqual(first, self.calls(talk))
            self.assertEqual(first, self.calls(same))
            self.assertEqual(talk, same)

    def test_what_is_passed_stays_as_it_was(self):
        for rows in ([[s(0)], [g(0)]], [[s(0), s(0)]], [[], 5], [[s(1)], [g(1)]], ring_rows(6), crossing_rows(6)):
            before = copy.deepcopy(rows)
            try:
                self.calls(Talk(rows))
            except BadTalk:
                pass
            self.assertEqual(rows, before)
        for hands, pairs in ((2, [(0, 1)]), (2, [(0, 1), (1, 1)]), (0, [(0, 1)]), (2, [[0, 1]])):
            before = copy.deepcopy(pairs)
            try:
                drawn(hands, pairs)
            except errors.TalkError:
                pass
            self.assertEqual(pairs, before)
        for hands in ([0, 1], [0, 1, 2], [[0]], [0, 0]):
            before = copy.deepcopy(hands)
            try:
                Bench(Talk([[s(0)], [g(0)]])).do_all(hands)
            except errors.TalkError:
                pass
            self.assertEqual(hands, before)
        talk = Talk([[s(0)], [g(0)]])
        for function in (is_paper, is_cut, is_run):
            for value in (["moments", [0]], [0, 0], [s(0), g(0)], (s(0), [0]), (0, [0])):
                before = copy.deepcopy(value)
                self.assertIs(function(talk, value), False)
                self.assertEqual(value, before)

    def test_a_talk_stays_as_it_was_after_errors(self):
        talk = Talk(rows_of("s0 g1 / s1 g0"))
        before = self.calls(talk)
        for value in odd_values():
            for call in (talk.sender, talk.getter, lambda x: clock(talk, x), lambda x: is_ahead(talk, s(0), x),
                         lambda x: is_ahead(talk, x, s(0)), lambda x: cut_at(talk, x),
                         lambda x: cut_number(talk, x), lambda x: under_way(talk, x), lambda x: next_cuts(talk, x),
                         lambda x: met(talk, (1, 1), x), lambda x: joined(talk, x, (1, 1)),
                         lambda x: run_at(talk, x), lambda x: run_number(talk, x), lambda x: rooms_of(talk, x),
                         read_talk, Bench(talk).do, Bench(talk).do_all):
                with self.assertRaises(errors.TalkError):
                    call(value)
            self.assertIs(is_paper(talk, value), False)
            self.assertIs(is_cut(talk, value), False)
            self.assertIs(is_run(talk, value), False)
        self.assertEqual(self.calls(talk), before)
        self.assertEqual(talk, Talk(rows_of("s0 g1 / s1 g0")))

    def test_a_talk_stays_as_it_was_behind_its_benches(self):
        for rows in many_rows()[::40]:
            talk, same = Talk(rows), Talk(rows)
            before = self.calls(same)
            bench = Bench(talk)
            for hand in range(len(rows)):
                try:
                    bench.do_all([hand] * len(talk.rows[hand]))
                except Waits:
                    pass
            self.assertIs(bench.talk, talk)
            self.assertEqual((talk, self.calls(talk)), (same, before))

    def test_drawn_keeps_its_letters(self):
        pairs = [(0, 1)]
        talk = drawn(2, pairs)
        pairs.append((1, 0))
        self.assertEqual(talk.rows, ((s(0),), (g(0),)))


class TestOperators(unittest.TestCase):

    def check_operators(self, one, value):
        """See that an object takes no sign beside a value but == and !=."""
        for call in (lambda: one + value, lambda: value + one, lambda: one - value, lambda: one * value,
                     lambda: value * one, lambda: one < value, lambda: one <= value, lambda: one > value,
                     lambda: value >= one, lambda: one | value, lambda: one & value, lambda: one // value,
                     lambda: one ** value, lambda: one << value, lambda: one % value, lambda: -one, lambda: one[0]):
            with self.assertRaises(TypeError):
                call()

    def test_other_operators_raise_type_error(self):
        talk = Talk([[s(0)], [g(0)]])
        bench = Bench(talk)
        for one in (talk, bench):
            for value in (1, "x", None, (), [], talk, Talk([[]]), bench, Bench(Talk([[]]))):
                self.check_operators(one, value)
        self.assertEqual((len(talk), len(bench)), (1, 0))

    def test_errors_are_equal_to_nothing_else(self):
        self.assertFalse(BadTalk(None) == Talk([[]]))
        self.assertTrue(BadTalk(None) != Talk([[]]))
        self.assertFalse(BadTalk(None) == Bench(Talk([[]])))
        self.assertTrue(BadTalk(None) != Bench(Talk([[]])))


class TestModules(unittest.TestCase):

    def test_numbers_are_integers_of_python(self):
        self.assertIs(type(talks.MOST_HANDS), int)
        self.assertIs(type(talks.MOST_LETTERS), int)
        for many in (0, 5, 12):
            talk = drawn(3, [(0, 1)] * many)
            self.assertIs(type(talk.many), int)
            self.assertTrue(all(type(moment) is int for moment in upright.moments(talk)))


if __name__ == "__main__":
    unittest.main()

"""uprightletters.bench: the interface of the file."""

import copy
import inspect
import unittest
from random import Random
from unittest.mock import ANY

from tests.orders import crossed_break_rows, great_rows, wheel_rows
from tests.samples import crossing_rows, g, many_rows, odd_values, ring_rows, rows_of, s
from uprightletters.bench import Bench, tried
from uprightletters.cuts import cuts, is_cut, under_way
from uprightletters.errors import BadNumber, NothingLeft, TalkError, Waits
from uprightletters.runs import is_run, run_at
from uprightletters.talks import Talk

TEXT = "s0 g1 s2 / s1 g0 / g2"


def bench_of(text, hands=(), back=0):
    """A bench of a talk from a short form, with the doings of some hands done, and some of them taken back."""
    bench = Bench(Talk(rows_of(text)))
    bench.do_all(hands)
    for turn in range(back):
        bench.undo()
    return bench


def redone(bench):
    """What can be done again, in the order in which it would be."""
    def all_again(same):
        found = []
        while True:
            try:
                found.append(same.redo())
            except NothingLeft:
                return found

    return tried(bench, all_again)


def seen(bench):
    """All that can be seen of a bench."""
    return (bench.talk.rows, bench.now, len(bench), bench.doings(), bench.under_way(), bench.waiting(), redone(bench))


def hand_of(talk, doing):
    """The hand whose row a doing stands in."""
    return [doing in row for row in talk.rows].index(True)


class Slow:
    """A slow second opinion on a bench: what is done and what can be done again, as lists."""

    def __init__(self, rows):
        self.rows, self.done, self.undone = rows, [], []

    def found(self, hand, done):
        """The next doing of a hand, or the name of an error and its field."""
        if type(hand) is not int or hand not in range(len(self.rows)):
            return "BadNumber", hand
        left = [doing for doing in self.rows[hand] if doing not in done]
        if not left:
            return "BadNumber", hand
        if left[0][0] == "get" and s(left[0][1]) not in done:
            return "Waits", left[0][1]
        return left[0]

    def do_all(self, hands):
        told = []
        for hand in hands:
            found = self.found(hand, self.done + told)
            if found[0] in ("BadNumber", "Waits"):
                return found
            told.append(found)
        if told:
            self.done, self.undone = self.done + told, []
        return tuple(told)

    def do(self, hand):
        told = self.do_all([hand])
        return told[0] if len(told) == 1 else told

    def undo(self):
        if not self.done:
            return "NothingLeft", None
        self.undone = [self.done[-1]] + self.undone
        self.done = self.done[:-1]
        return self.undone[0]

    def redo(self):
        if not self.undone:
            return "NothingLeft", None
        self.done = self.done + [self.undone[0]]
        self.undone = self.undone[1:]
        return self.done[-1]

    def seen(self):
        """All that can be seen of it."""
        letters = sorted(letter for row in self.rows for word, letter in row if word == "send")
        nexts = [self.found(hand, self.done) for hand in range(len(self.rows))]
        return (self.rows, tuple(sum(doing in self.done for doing in row) for row in self.rows), len(self.done),
                tuple(self.done), tuple(k for k in letters if s(k) in self.done and g(k) not in self.done),
                tuple(hand for hand, found in enumerate(nexts) if found[0] == "Waits"), self.undone)


def outcome(function, *told):
    """What a call returns, or the name of its error and its field."""
    try:
        return function(*told)
    except BadNumber as error:
        return "BadNumber", error.value
    except Waits as error:
        return "Waits", error.letter
    except NothingLeft:
        return "NothingLeft", None


class Cases(unittest.TestCase):

    def assert_refused(self, wanted, field, call):
        """See that a call raises an error with a field."""
        with self.assertRaises(wanted) as caught:
            call()
        self.assertIs(type(caught.exception), wanted)
        found = caught.exception.value if wanted == BadNumber else caught.exception.letter
        self.assertEqual((type(found), repr(found)), (type(field), repr(field)))

    def assert_nothing_left(self, call):
        with self.assertRaises(NothingLeft):
            call()


class TestNew(Cases):

    def test_a_new_bench(self):
        for rows in ([[]], [[], [], []], rows_of("s0 / g0"), wheel_rows()):
            talk = Talk(rows)
            bench = Bench(talk)
            self.assertIs(bench.talk, talk)
            self.assertEqual(bench.now, (0,) * len(rows))
            self.assertEqual((len(bench), bench.doings(), bench.under_way()), (0, (), ()))
            self.assert_nothing_left(bench.undo)
            self.assert_nothing_left(bench.redo)

    def test_the_class(self):
        own = vars(Bench)
        wanted = {"do": ["hand"], "do_all": ["hands"], "undo": [], "redo": [], "waiting": [], "doings": [],
                  "under_way": [], "trial": [], "__init__": ["talk"], "__len__": [], "__eq__": ["other"]}
        for name, parameters in wanted.items():
            self.assertEqual(list(inspect.signature(own[name]).parameters)[1:], parameters, name)
        self.assertIsInstance(own["now"], property)
        self.assertIsNone(own["now"].fset)
        self.assertEqual(list(inspect.signature(tried).parameters), ["bench", "function"])
        for made in (Bench, tried):
            self.assertEqual(made.__module__, "uprightletters.bench")

    def test_now_is_not_assigned(self):
        bench = bench_of(TEXT)
        with self.assertRaises(AttributeError):
            bench.now = (1, 0, 0)
        self.assertEqual(bench.now, (0, 0, 0))

    def test_two_benches_of_a_talk(self):
        talk = Talk(rows_of(TEXT))
        one, other = Bench(talk), Bench(talk)
        one.do(0)
        self.assertEqual((len(one), len(other)), (1, 0))
        self.assertEqual(talk, Talk(rows_of(TEXT)))


class TestDo(Cases):

    def test_one_after_another(self):
        bench = bench_of(TEXT)
        steps = ((0, s(0), (1, 0, 0), (0,), (0, 2)), (1, s(1), (1, 1, 0), (0, 1), (2,)),
                 (1, g(0), (1, 2, 0), (1,), (2,)), (0, g(1), (2, 2, 0), (), (2,)), (0, s(2), (3, 2, 0), (2,), ()),
                 (2, g(2), (3, 2, 1), (), ()))
        self.assertEqual(bench.waiting(), (2,))
        for many, (hand, doing, now, letters, waits) in enumerate(steps):
            self.assertEqual(bench.do(hand), doing)
            self.assertEqual((bench.now, bench.under_way(), bench.waiting()), (now, letters, waits))
            self.assertEqual((len(bench), bench.doings()[-1]), (many + 1, doing))
        self.assertEqual(bench.doings(), tuple(step[1] for step in steps))
        self.assertIs(is_run(bench.talk, bench.doings()), True)

    def test_kinds_of_results(self):
        bench = bench_of(TEXT, (0, 1))
        for value in (bench.now, bench.doings(), bench.under_way(), bench.waiting(), bench.do(0), bench.do_all([1]),
                      bench.undo(), bench.redo()):
            self.assertIs(type(value), tuple)
        self.assertIs(type(len(bench)), int)

    def test_no_hand(self):
        for back in (0, 1):
            bench = bench_of(TEXT, (0, 1), back)
            before = seen(bench)
            for value in odd_values() + [3, 4, -1, -3, (0,), [0], "0", 10 ** 29, ANY, bench, bench.talk]:
                with self.subTest(str(value)[:50]):
                    with self.assertRaises(BadNumber) as caught:
                        bench.do(value)
                    self.assertIs(caught.exception.value, value)
                    with self.assertRaises(BadNumber) as caught:
                        bench.do_all([value])
                    self.assertIs(caught.exception.value, value)
                    self.assertEqual(seen(bench), before)

    def test_true_and_false_are_no_hands(self):
        bench = bench_of(TEXT)
        self.assert_refused(BadNumber, False, lambda: bench.do(False))
        self.assert_refused(BadNumber, True, lambda: bench.do(True))
        self.assertEqual((bench.do(0), bench.do(1)), (s(0), s(1)))

    def test_a_hand_with_no_doing_left(self):
        bench = bench_of("s0 / g0 / ", (0,), 0)
        self.assert_refused(BadNumber, 0, lambda: bench.do(0))
        self.assert_refused(BadNumber, 2, lambda: bench.do(2))
        self.assertEqual(bench.do(1), g(0))
        for hand in (0, 1, 2, 3):
            self.assert_refused(BadNumber, hand, lambda: bench.do(hand))
        for hand in range(6):
            self.assert_refused(BadNumber, hand, lambda: Bench(Talk([[]] * 6)).do(hand))

    def test_a_letter_that_is_not_sent(self):
        bench = Bench(Talk([[g(0), g(2)], [s(1), s(0), s(2)], [g(1)]]))
        self.assert_refused(Waits, 0, lambda: bench.do(0))
        self.assert_refused(Waits, 1, lambda: bench.do(2))
        bench.do_all([1, 1, 0])
        self.assert_refused(Waits, 2, lambda: bench.do(0))
        self.assertEqual(bench.do(2), g(1))
        self.assertEqual(bench.doings(), (s(1), s(0), g(0), g(1)))

    def test_errors_change_nothing(self):
        bench = bench_of(TEXT, (0, 1, 1), 2)
        before = seen(bench)
        self.assertEqual(before[-1], [s(1), g(0)])
        for hand, wanted in ((2, Waits), (3, BadNumber), (0, Waits), (-1, BadNumber), (None, BadNumber)):
            with self.assertRaises(wanted):
                bench.do(hand)
            self.assertEqual(seen(bench), before)
        self.assertEqual(bench.redo(), s(1))

    def test_errors_are_talk_errors(self):
        bench = bench_of(TEXT)
        for call in (lambda: bench.do(9), lambda: bench.do(2), bench.undo, bench.redo, lambda: bench.do_all(0)):
            with self.assertRaises(TalkError):
                call()


class TestDoAll(Cases):

    def test_lists_and_tuples(self):
        wanted = (s(0), s(1), g(0), g(1), s(2), g(2))
        for kind in (list, tuple):
            bench = bench_of(TEXT)
            told = bench.do_all(kind([0, 1, 1, 0, 0, 2]))
            self.assertEqual((told, bench.doings(), bench.now), (wanted, wanted, (3, 2, 1)))
            self.assertIs(type(told), tuple)

    def test_only_those_that_are_done_now(self):
        bench = bench_of(TEXT, (0, 1))
        self.assertEqual(bench.do_all((1, 0)), (g(0), g(1)))
        self.assertEqual(bench.do_all([0]), (s(2),))
        self.assertEqual(len(bench), 5)

    def test_without_any_hands(self):
        for empty in ([], ()):
            bench = bench_of(TEXT, (0, 1, 1), 2)
            before = seen(bench)
            self.assertEqual(bench.do_all(empty), ())
            self.assertIs(type(bench.do_all(empty)), tuple)
            self.assertEqual(seen(bench), before)
            self.assertEqual((bench.redo(), bench.redo()), (s(1), g(0)))
            self.assertEqual(Bench(Talk([[]])).do_all(empty), ())

    def test_no_list_or_tuple(self):
        bench = bench_of(TEXT, (0, 1), 1)
        before = seen(bench)
        for value in odd_values() + [0, 1, "", "01", b"\x00", {0: 1}, {}, {0, 1}, range(0), range(2), iter([0]), ANY,
                                     bench, bench.talk]:
            with self.subTest(str(value)[:50]):
                with self.assertRaises(BadNumber) as caught:
                    bench.do_all(value)
                self.assertIs(caught.exception.value, value)
                self.assertEqual(seen(bench), before)

    def test_all_or_none(self):
        for hands, wanted, field in (([0, 1, 2], Waits, 2), ([0, 1, 3], BadNumber, 3), ([1, 1], Waits, 0),
                                     ([0, 0, 7], Waits, 1), ([7, 0, 0], BadNumber, 7), ((0, 1, 0, 0, 0), BadNumber, 0),
                                     ([0, 1, None, 2], BadNumber, None), ([0, True], BadNumber, True),
                                     ([2, None], Waits, 2), ([None, 2], BadNumber, None), ([[0]], BadNumber, [0]),
                                     ((0, 1, "1"), BadNumber, "1"), ([0, 1, 1, 0, 0, 2, 2], BadNumber, 2),
                                     ([0, 1, -1], BadNumber, -1), ([(0, 1)], BadNumber, (0, 1)), ([[]], BadNumber, [])):
            for back in (0, 1):
                bench = bench_of(TEXT, (0,) * back, back)
                before = seen(bench)
                with self.subTest(hands):
                    self.assert_refused(wanted, field, lambda: bench.do_all(hands))
                    self.assertEqual(seen(bench), before)
                    self.assertEqual((len(bench), len(before[-1])), (0, back))

    def test_what_is_passed_stays(self):
        for hands in ([0, 1, 1], [0, 1, 9], [0, [1]], []):
            before = copy.deepcopy(hands)
            outcome(bench_of(TEXT).do_all, hands)
            self.assertEqual(hands, before)

    def test_a_list_that_changes_later(self):
        bench, hands = bench_of(TEXT), [0, 1]
        bench.do_all(hands)
        hands += [1, 0]
        self.assertEqual(bench.doings(), (s(0), s(1)))

    def test_very_many_hands(self):
        bench = bench_of(TEXT)
        self.assert_refused(Waits, 1, lambda: bench.do_all([0] * 100000))
        self.assert_refused(BadNumber, 9, lambda: bench.do_all([9] * 100000))


class TestUndoAndRedo(Cases):

    def test_there_and_back(self):
        bench = bench_of(TEXT, (0, 1, 1))
        self.assertEqual([bench.undo() for turn in range(3)], [g(0), s(1), s(0)])
        self.assertEqual((len(bench), bench.now, bench.doings()), (0, (0, 0, 0), ()))
        self.assert_nothing_left(bench.undo)
        self.assertEqual([bench.redo() for turn in range(3)], [s(0), s(1), g(0)])
        self.assertEqual((bench.now, bench.doings()), ((1, 2, 0), (s(0), s(1), g(0))))
        self.assert_nothing_left(bench.redo)

    def test_the_last_one_and_not_that_of_the_last_hand(self):
        bench = bench_of("s0 s1 / g0 g1", (0, 1, 0, 1))
        self.assertEqual([bench.undo() for turn in range(4)], [g(1), s(1), g(0), s(0)])
        bench = bench_of("s0 s1 / g0 g1", (0, 0, 1, 1))
        self.assertEqual([bench.undo() for turn in range(4)], [g(1), g(0), s(1), s(0)])

    def test_a_new_doing_ends_what_can_be_done_again(self):
        for call in (lambda bench: bench.do(1), lambda bench: bench.do(0), lambda bench: bench.do_all([1, 0]),
                     lambda bench: bench.do_all((0,))):
            bench = bench_of(TEXT, (0, 1), 2)
            call(bench)
            before = seen(bench)
            self.assert_nothing_left(bench.redo)
            self.assertEqual(seen(bench), before)

    def test_it_ends_all_of_it(self):
        bench = bench_of(TEXT, (0, 1, 1, 0), 3)
        self.assertEqual(bench.redo(), s(1))
        self.assertEqual(bench.do(1), g(0))
        self.assert_nothing_left(bench.redo)
        self.assertEqual(bench.undo(), g(0))
        self.assertEqual(bench.redo(), g(0))

    def test_redo_and_undo_end_nothing(self):
        bench = bench_of(TEXT, (0, 1, 1), 3)
        for turn in range(3):
            self.assertEqual((bench.redo(), bench.undo(), bench.redo()), (bench.doings()[-1],) * 3)
        self.assertEqual(bench.doings(), (s(0), s(1), g(0)))

    def test_what_tells_ends_nothing(self):
        bench = bench_of(TEXT, (0, 1, 1), 2)
        for call in (bench.doings, bench.under_way, bench.waiting, bench.trial, lambda: len(bench), lambda: bench.now,
                     lambda: bench == bench_of(TEXT), lambda: bench.do_all(())):
            call()
        self.assertEqual(redone(bench), [s(1), g(0)])

    def test_nothing_left_changes_nothing(self):
        bench = bench_of(TEXT, (0, 1))
        self.assert_nothing_left(bench.redo)
        self.assertEqual(bench.doings(), (s(0), s(1)))
        bench.undo()
        bench.undo()
        self.assert_nothing_left(bench.undo)
        self.assertEqual(redone(bench), [s(0), s(1)])
        bench = Bench(Talk([[]]))
        self.assert_nothing_left(bench.undo)
        self.assert_nothing_left(bench.redo)

    def test_a_whole_run_there_and_back(self):
        for rows in great_rows()[::6]:
            talk = Talk(rows)
            bench, run = Bench(talk), run_at(talk, 0)
            self.assertEqual(bench.do_all([hand_of(talk, doing) for doing in run]), run)
            self.assertEqual(tuple(bench.undo() for turn in run), run[::-1])
            self.assertEqual(tuple(bench.redo() for turn in run), run)
            self.assertEqual((len(bench), bench.now), (24, tuple(map(len, talk.rows))))


class TestWaiting(Cases):

    def test_by_hand(self):
        for text, hands, wanted in (("", (), ()), ("s0 / g0", (), (1,)), ("s0 / g0", (0,), ()), ("g0 / s0", (), (0,)),
                                    ("s0 / g0", (0, 1), ()), ("g0 / s0 / g1 / s1 / / ", (), (0, 2)),
                                    ("g0 / g1 / g2 / g3 / g4 / s4 s3 s2 s1 s0", (), (0, 1, 2, 3, 4)),
                                    ("g0 / g1 / g2 / g3 / g4 / s4 s3 s2 s1 s0", (5, 5), (0, 1, 2)),
                                    ("s0 g1 / s1 g0", (0,), (0,)), ("s0 g1 / s1 g0", (0, 1), ()),
                                    ("s0 s1 / g1 g0", (0,), (1,)), ("s0 s1 / g1 g0", (0, 0), ())):
            with self.subTest(text=text, hands=hands):
                self.assertEqual(bench_of(text, hands).waiting(), wanted)

    def test_those_that_do_refuses(self):
        for rows in many_rows()[::29]:
            bench = Bench(Talk(rows))
            for doing in run_at(bench.talk, 0):
                waits = [hand for hand in range(len(rows))
                         if outcome(tried, bench, lambda same: same.do(hand))[0] == "Waits"]
                self.assertEqual(bench.waiting(), tuple(waits))
                bench.do(hand_of(bench.talk, doing))


class TestEachStep(Cases):

    def test_cuts_and_letters_under_way(self):
        for rows in many_rows()[::23] + [wheel_rows(), crossed_break_rows()]:
            talk = Talk(rows)
            bench, known = Bench(talk), set(cuts(talk))
            for doing in run_at(talk, 0):
                self.assertEqual(bench.do(hand_of(talk, doing)), doing)
                self.assertIn(bench.now, known)
                self.assertIs(is_cut(talk, bench.now), True)
                self.assertEqual(bench.under_way(), under_way(talk, bench.now))
                self.assertEqual((len(bench), len(bench.doings())), (sum(bench.now),) * 2)

    def test_any_steps(self):
        for seed, rows in enumerate(many_rows()[::11] + [ring_rows(6), crossing_rows(6), wheel_rows()]):
            source, talk = Random(seed), Talk(rows)
            bench, slow = Bench(talk), Slow(talk.rows)
            for turn in range(40):
                self.step(source, bench, slow)
            self.assertEqual(seen(bench), slow.seen())

    def step(self, source, bench, slow, deep=0):
        """Do the same, by chance, on a bench and on a slow one."""
        hands = [source.choice([*range(len(slow.rows))] * 9 + [-1, len(slow.rows), None, True])
                 for turn in range(source.choice((0, 1, 2, 2, 3)))]
        word = source.choice(("do", "do", "do", "do_all", "do_all", "undo", "redo", "trial"))
        if word == "trial":
            if deep < 3:
                self.trial_step(source, bench, slow, deep)
        elif word == "do":
            hand = (hands + [0])[0]
            self.assertEqual(outcome(bench.do, hand), slow.do(hand))
        elif word == "do_all":
            self.assertEqual(outcome(bench.do_all, hands), slow.do_all(hands))
        else:
            self.assertEqual(outcome(getattr(bench, word)), getattr(slow, word)())
        told = (bench.now, len(bench), bench.doings(), bench.under_way(), bench.waiting())
        self.assertEqual(told, slow.seen()[1:-1])

    def trial_step(self, source, bench, slow, deep):
        before = (slow.done, slow.undone)
        try:
            with bench.trial() as same:
                self.assertIs(same, bench)
                for turn in range(source.randrange(8)):
                    self.step(source, same, slow, deep + 1)
                if source.random() < 0.5:
                    raise KeyError(deep)
        except KeyError:
            pass
        slow.done, slow.undone = before


class TestEquality(Cases):

    def test_benches_that_are_alike(self):
        talk = Talk(rows_of(TEXT))
        for hands in ((), (0,), (0, 1), (1, 0), (0, 1, 1, 0, 0, 2)):
            one, other = Bench(talk), bench_of(TEXT, hands)
            one.do_all(hands)
            self.assertIs(one == other, True)
            self.assertIs(one != other, False)
            self.assertIs(other == one, True)
            self.assertIs(one == one, True)

    def test_what_can_be_done_again_does_not_count(self):
        one, other = bench_of(TEXT, (0, 1, 1), 2), bench_of(TEXT, (0,))
        self.assertIs(one == other, True)
        self.assertIs(one != other, False)
        self.assertIs(bench_of(TEXT, (0, 1), 2) == bench_of(TEXT), True)

    def test_others(self):
        base = bench_of(TEXT, (0, 1))
        for other in (bench_of(TEXT, (1, 0)), bench_of(TEXT), bench_of(TEXT, (0,)), bench_of(TEXT, (0, 1, 0)),
                      bench_of(TEXT, (0, 1), 1), bench_of("s0 g1 s2 / s1 g0 / g2 / ", (0, 1)),
                      bench_of("s0 g1 / s1 g0", (0, 1)), bench_of("s0 g1 s2 / s1 g2 g0", (0, 1))):
            self.assertIs(base == other, False)
            self.assertIs(base != other, True)
            self.assertIs(other == base, False)

    def test_same_doings_of_another_talk(self):
        one, other = bench_of("s0 s1 / g0 g1", (0,)), bench_of("s0 s1 / g1 g0", (0,))
        self.assertEqual((one.doings(), one.now), (other.doings(), other.now))
        self.assertIs(one == other, False)
        self.assertIs(bench_of("s0 / g0") == bench_of("g0 / s0"), False)
        self.assertIs(bench_of("") == bench_of("/"), False)

    def test_other_values(self):
        for bench in (bench_of(TEXT), bench_of(TEXT, (0, 1)), bench_of("")):
            for value in odd_values() + [bench.talk, bench.now, bench.doings(), len(bench), bench.trial(), Bench, (),
                                         [], 0, ANY]:
                self.assertIs(bench == value, False)
                self.assertIs(bench != value, True)
            for value in (bench.talk, bench.now, bench.doings(), 0, None):
                self.assertIs(value == bench, False)
                self.assertIs(value != bench, True)


class TestTrial(Cases):

    def test_the_block_gets_the_bench_itself(self):
        bench = bench_of(TEXT, (0,))
        with bench.trial() as same:
            self.assertIs(same, bench)
        with bench.trial():
            bench.do(1)
        self.assertEqual(bench.doings(), (s(0),))

    def test_the_bench_is_what_it_was(self):
        def back(same):
            same.undo()

        def forth(same):
            same.redo()

        def far(same):
            same.undo()
            same.do_all([1, 0, 1, 0])
            same.undo()

        def nothing(same):
            same.do_all([])

        for done in range(5):
            for call in (back, forth, far, nothing, lambda same: same.do(1), lambda same: same.do_all([1, 1])):
                bench = bench_of(TEXT, (0, 1, 1, 0, 0), 5 - done)
                before = seen(bench)
                with bench.trial() as same:
                    outcome(call, same)
                self.assertEqual(seen(bench), before)
                self.assertEqual(redone(bench), [s(0), s(1), g(0), g(1), s(2)][done:])

    def test_within_the_block_it_is_another(self):
        bench = bench_of(TEXT, (0, 1), 1)
        with bench.trial() as same:
            self.assertEqual((same.redo(), same.do(1), bench.doings()), (s(1), g(0), (s(0), s(1), g(0))))
            self.assertEqual((same.now, same.undo(), same.undo(), same.undo()), ((1, 2, 0), g(0), s(1), s(0)))
            self.assertEqual((len(bench), len(same)), (0, 0))
        self.assertEqual((bench.doings(), bench.redo()), ((s(0),), s(1)))

    def test_an_exception_passes(self):
        for error in (KeyError("x"), Waits(3), NothingLeft(), ValueError(), KeyboardInterrupt(), GeneratorExit(),
                      StopIteration(), TypeError(), AssertionError()):
            bench = bench_of(TEXT, (0, 1, 1), 2)
            before = seen(bench)
            with self.assertRaises(type(error)) as caught:
                with bench.trial() as same:
                    same.undo()
                    same.do_all([1, 0])
                    raise error
            self.assertIs(caught.exception, error)
            self.assertEqual(seen(bench), before)

    def test_an_error_of_the_bench_passes(self):
        bench = bench_of(TEXT, (0, 1), 1)
        for call, wanted in ((lambda same: same.do(2), Waits), (lambda same: same.do(9), BadNumber),
                             (lambda same: [same.undo(), same.undo()], NothingLeft),
                             (lambda same: [same.redo(), same.redo()], NothingLeft)):
            before = seen(bench)
            with self.assertRaises(wanted):
                with bench.trial() as same:
                    call(same)
            self.assertEqual(seen(bench), before)

    def test_other_ends_of_a_block(self):
        def left(bench):
            with bench.trial() as same:
                return same.do(1)

        bench = bench_of(TEXT, (0,))
        self.assertEqual(left(bench), s(1))
        self.assertEqual(bench.doings(), (s(0),))
        for hand in (1, 0):
            with bench.trial() as same:
                outcome(same.do, hand)
                if hand == 1:
                    continue
                break
        self.assertEqual(bench.doings(), (s(0),))

    def test_a_trial_within_a_trial(self):
        bench = bench_of(TEXT, (0, 1), 1)
        with bench.trial() as same:
            same.do(1)
            with same.trial() as inner:
                self.assertIs(inner, bench)
                inner.do_all([1, 0])
                with inner.trial():
                    inner.undo()
                    inner.undo()
                self.assertEqual(bench.doings(), (s(0), s(1), g(0), g(1)))
            self.assertEqual(bench.doings(), (s(0), s(1)))
            self.assert_nothing_left(bench.redo)
            same.undo()
            with self.assertRaises(KeyError):
                with same.trial():
                    same.undo()
                    raise KeyError
            self.assertEqual((bench.doings(), redone(bench)), ((s(0),), [s(1)]))
        self.assertEqual((bench.doings(), redone(bench)), ((s(0),), [s(1)]))

    def test_what_it_was_when_the_block_began(self):
        bench = bench_of(TEXT, (0,))
        made = bench.trial()
        bench.do(1)
        with made as same:
            same.do(1)
        self.assertEqual(bench.doings(), (s(0), s(1)))

    def test_trials_of_two_benches(self):
        one, other = bench_of(TEXT), bench_of(TEXT, (0,))
        with one.trial() as first, other.trial() as second:
            first.do(1)
            second.undo()
            self.assertEqual((one.doings(), other.doings()), ((s(1),), ()))
        self.assertEqual((one.doings(), other.doings()), ((), (s(0),)))

    def test_a_bench_that_was_tried_goes_on(self):
        bench = bench_of(TEXT)
        for hand in (0, 1, 1, 0, 0, 2):
            with bench.trial():
                told = bench.do(hand)
            self.assertEqual(bench.do(hand), told)
        self.assertEqual(len(bench), 6)


class TestTried(Cases):

    def test_it_hands_back_what_the_function_returns(self):
        bench, value = bench_of(TEXT, (0,)), object()
        for wanted in (None, True, 0, (), value, bench):
            self.assertIs(tried(bench, lambda same: wanted), wanted)
        self.assertEqual(tried(bench, lambda same: same.do(1)), s(1))
        self.assertEqual(tried(bench, lambda same: same.do_all([1, 1, 0])), (s(1), g(0), g(1)))
        self.assertEqual(tried(bench, Bench.undo), s(0))
        self.assertEqual(tried(bench, len), 1)
        self.assertIsNone(tried(bench, lambda same: None))

    def test_the_function_gets_the_bench_itself(self):
        bench, got = bench_of(TEXT), []
        tried(bench, got.append)
        self.assertEqual(len(got), 1)
        self.assertIs(got[0], bench)

    def test_the_bench_is_what_it_was(self):
        bench = bench_of(TEXT, (0, 1, 1), 2)
        before = seen(bench)
        tried(bench, lambda same: [same.undo(), same.do(1)])
        self.assertEqual(seen(bench), before)

    def test_an_exception_passes(self):
        bench = bench_of(TEXT, (0, 1, 1), 2)
        before = seen(bench)
        self.assert_refused(Waits, 2, lambda: tried(bench, lambda same: [same.do(1), same.do(2)]))
        self.assert_nothing_left(lambda: tried(bench, lambda same: [same.undo(), same.undo()]))
        with self.assertRaises(KeyboardInterrupt):
            tried(bench, self.broken)
        self.assertEqual(seen(bench), before)

    def broken(self, same):
        same.do_all([1, 1])
        raise KeyboardInterrupt

    def test_tried_within_tried(self):
        bench = bench_of(TEXT)

        def outer(same):
            same.do(0)
            return tried(same, lambda inner: inner.do_all([1, 1])), same.doings()

        self.assertEqual(tried(bench, outer), ((s(1), g(0)), (s(0),)))
        self.assertEqual(len(bench), 0)

    def test_arguments_by_name_in_another_order(self):
        self.assertEqual(tried(function=lambda same: same.do(hand=0), bench=bench_of(TEXT)), s(0))
        bench = Bench(talk=Talk(rows_of(TEXT)))
        self.assertEqual(bench.do_all(hands=[0, 1]), (s(0), s(1)))
        self.assert_refused(BadNumber, 5, lambda: bench.do(hand=5))
        self.assert_refused(BadNumber, 5, lambda: bench.do_all(hands=5))


if __name__ == "__main__":
    unittest.main()

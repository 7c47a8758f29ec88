"""The interface, the document's examples, and what the document says of a line."""

import unittest

from tests.model import Model, model_answer
from tests.support import HUGE, PLAIN, Played, accept, author, change, clock, cut, from_of, line, move, paint, paragraph
from tests.support import parted, put, reject, size, stretches, tag, told_pieces, told_text, track, view, where
from trackedtext.desk import UnknownCall, answers

QUESTIONS = [view(0), view(1), view(2), view(3), change(1), change(3), change(9), size(), where(2), where(99),
             from_of(0, 4), from_of(2, 3), from_of(1, 0), from_of(0, 99), paragraph(1), paragraph(5), stretches()]
MIXED = line(author(2), put(0, "abc\ndef"), track(1), clock(5), cut(1, 3), paint(0, 4, 1, 7), move(0, 2, 4),
             tag(0, 3, 9, 1), author(3), move(2, 3, 0), put(9, "x"), put(0, [7]), *QUESTIONS, accept(), *QUESTIONS,
             put(1, "yz"), cut(0, 1), *QUESTIONS, reject(), *QUESTIONS)


class FormTest(unittest.TestCase):
    def test_each_call_alone(self):
        for call, answer in ((author(1), [1, 0]), (clock(0), [1, 0]), (track(1), [1, 0]), (put(0, "a"), [1, 0]),
                             (cut(0, 1), [1, -1]), (paint(0, 1, 0, 0), [1, 0]), (move(0, 1, 0), [1, -1]),
                             (tag(0, 1, 1, 1), [1, 1]), (accept(), [1, 0]), (reject(), [1, 0]),
                             (view(0), [10, 1, 10, 0, 0, 0, 0, 0, 0, 0, 0]), (view(1), [7, 1, 10, 0, 0, 0, 0, 0]),
                             (view(2), [7, 1, 10, 0, 0, 0, 0, 0]), (view(3), [1, -2]), (change(1), [1, -4]),
                             (size(), [4, 1, 1, 1, 0]), (where(0), [2, 0, 0]), (where(1), [1, -1]),
                             (from_of(0, 0), [1, 0]), (from_of(2, 0), [1, 0]), (from_of(1, 0), [1, -2]),
                             (from_of(0, 1), [1, -1]), (paragraph(0), [2, 0, 1]), (paragraph(1), [1, -1]),
                             (stretches(), [1, 0])):
            self.assertEqual(answers(call), answer, call)

    def test_the_numbers_of_the_calls(self):
        calls = [3, 0, 4, 97, 10, 98, 99, 2, 1, 0, 2, 1, 6, 4, 0, 1, 5, 1, 2, 3, 4, 7, 0, 2, 5, 1, 6, 2, 3, 0,
                 9, 10, 1, 11, 1, 12, 13, 1, 14, 0, 1, 14, 2, 2, 15, 1, 16, 8]
        self.assertEqual(parted(answers(calls)), [
            [0], [0], [0], [0], [1], [2], [2], [3],
            [4], [5, 97, 0, 0, 0, 0, 0, 10, 0, 0, 0, 0, 1, 5, 98, 0, 0, 0, 0, 1, 5, 99, 0, 0, 0, 0, 0, 10, 0, 0, 0, 0, 0],
            [2, 6, 2, 0, 0, 0], [5, 5, 5, 3], [1, 1], [1], [2], [2, 5], [0], [0],
        ])

    def test_one_behind_another(self):
        self.assertEqual(answers([3, 0, 2, 97, 98, 2, 1, 3, 1, 1, 99, 16, 4, 0, 9, 8]),
                         [1, 0, 1, 0, 1, 1, 7, 1, 1, 1, 1, 1, 0, 0, 1, -1, 1, 1])

    def test_a_put_without_signs_is_read_right(self):
        self.assertEqual(answers([3, 0, 0, 0, 5, 3, 0, 0]), [1, -2, 1, 0, 1, -2])

    def test_signs_that_look_like_calls(self):
        self.assertEqual(answers([3, 0, 3, 8, 16, 10, 8]), [1, -2, 1, 0])

    def test_questions_among_other_calls(self):
        model = Model()
        calls = [author(2), put(0, "abc\ndef"), track(1), *QUESTIONS, cut(1, 3), *QUESTIONS, reject(), *QUESTIONS]
        self.assertEqual(parted(answers(line(*calls))), [model_answer(model, call) for call in calls])

    def test_the_kinds(self):
        given = answers(MIXED)
        self.assertIs(type(given), list)
        self.assertEqual({type(number) for number in given}, {int})

    def test_a_number_that_is_no_call(self):
        for number in (17, -1, HUGE):
            with self.assertRaises(UnknownCall):
                answers([number])


class NothingKeptTest(unittest.TestCase):
    def test_the_list_handed_in_stays(self):
        calls = list(MIXED)
        answers(calls)
        self.assertEqual(calls, MIXED)
        self.assertEqual({type(number) for number in calls}, {int})

    def test_the_answers_are_no_part_of_what_was_handed_in(self):
        calls = list(MIXED)
        self.assertIsNot(answers(calls), calls)

    def test_the_list_is_only_read(self):
        class Read(list):
            def changed(self, *rest):
                raise AssertionError("the list was changed")
            append = extend = insert = pop = remove = clear = sort = reverse = changed
            __setitem__ = __delitem__ = __iadd__ = __imul__ = changed

        self.assertEqual(answers(Read(MIXED)), answers(MIXED))

    def test_two_times_the_same(self):
        first = answers(MIXED)
        answers(line(author(9), clock(7), track(1), put(0, "zz"), paint(0, 3, 2, 5), tag(0, 3, 1, 1)))
        self.assertEqual(answers(MIXED), first)

    def test_each_list_begins_anew(self):
        answers(line(author(9), clock(7), track(1), put(0, "zz"), paint(0, 3, 2, 5), tag(0, 3, 1, 1)))
        self.assertEqual(answers(line(clock(0), tag(0, 1, 1, 1), put(0, "a"), stretches(), cut(0, 2))),
                         [1, 0, 1, 1, 1, 0, 1, 0, 1, -1])


def plain(sign, insertions, deletions):
    return (ord(sign), PLAIN, insertions, deletions, [], [])


def text(played, w):
    """The accepted text (w = 1) or the rejected text (w = 2), whose looks and tags must be plain."""
    pieces = told_text(played.ask(view(w)))
    assert all(piece[1:] == (PLAIN, []) for piece in pieces)
    return "".join(chr(piece[0]) for piece in pieces)


class FirstExampleTest(unittest.TestCase):
    calls = [author(1), put(0, "abc"), track(1), author(2), cut(1, 2), put(1, "X")]

    def check(self, played, row, accepted, rejected):
        self.assertEqual(told_pieces(played.ask(view(0))), row)
        self.assertEqual(text(played, 1), accepted)
        self.assertEqual(text(played, 2), rejected)

    def test_the_row(self):
        played = Played(*self.calls)
        self.assertEqual(played.answers, [[0], [0], [0], [0], [1], [2]])
        self.check(played, [plain("a", [], []), plain("b", [], [1]), plain("X", [2], []), plain("c", [], []),
                            plain("\n", [], [])], "aXc\n", "abc\n")
        self.assertEqual(played.ask(stretches()), [2, 1, 1, 0, 1, 1, 0, 2, 1, 1, 2, 0, 0])
        self.assertEqual(played.ask(size()), [4, 5, 4, 2])
        self.assertEqual([played.ask(change(c)) for c in (1, 2, 3)], [[2, 0, 2, 0, 1, 0], [2, 0, 1, 1, 0, 0], [-4]])

    def test_author_2_cuts(self):
        played = Played(*self.calls, cut(1, 2))
        self.assertEqual(played.last, [0])
        self.check(played, [plain("a", [], []), plain("b", [], [1]), plain("c", [], []), plain("\n", [], [])],
                   "ac\n", "abc\n")
        self.assertEqual(played.ask(change(2)), [2, 0, 1, 0, 0, 0])

    def test_author_3_cuts(self):
        for settle, left in ((accept(), "a c |"), (reject(), "a b c |")):
            played = Played(*self.calls, author(3), cut(1, 2))
            self.assertEqual(played.last, [3])
            self.check(played, [plain("a", [], []), plain("b", [], [1]), plain("X", [2], [3]), plain("c", [], []),
                                plain("\n", [], [])], "ac\n", "abc\n")
            self.assertEqual(played.then(settle).last, [2])
            self.assertEqual(played.marks(), left)


class SecondExampleTest(unittest.TestCase):
    calls = [author(1), put(0, "ab"), track(1), move(0, 1, 2)]

    def test_author_1_moves(self):
        played = Played(*self.calls)
        self.assertEqual(played.last, [1])
        self.assertEqual(told_pieces(played.ask(view(0))), [
            plain("a", [], [1]), plain("b", [], []), plain("a", [1], []), plain("\n", [], []),
        ])
        self.assertEqual([played.ask(where(p)) for p in range(4)], [[1, 1], [2, 2], [3, 2], [-1]])
        self.assertEqual(text(played, 1), "ba\n")
        self.assertEqual(text(played, 2), "ab\n")

    def test_author_2_moves_back(self):
        for settle in (accept(), reject()):
            played = Played(*self.calls, author(2), move(1, 2, 0))
            self.assertEqual(played.last, [2])
            self.assertEqual(told_pieces(played.ask(view(0))), [
                plain("a", [], [1]), plain("a", [1, 2], []), plain("b", [], []), plain("a", [1], [2]), plain("\n", [], []),
            ])
            self.assertEqual(text(played, 1), "ab\n")
            self.assertEqual(text(played, 2), "ab\n")
            self.assertEqual([played.ask(change(c)) for c in (1, 2)], [[1, 0, 4, 2, 1, 0], [2, 0, 4, 1, 1, 0]])
            self.assertEqual(played.then(settle).last, [3])
            self.assertEqual(played.marks(), "a b |")


class LongTest(unittest.TestCase):
    def test_400_calls_on_thousands_of_signs(self):
        signs = [32 + number % 95 for number in range(2000)]
        calls = [put(0, signs) for number in range(6)] + [track(1)]
        while len(calls) < 399:
            calls.append(author(1 + len(calls) % 3))
            calls.append(move(0, 6000, 12000) if len(calls) % 20 == 8 else paint(0, 12001, len(calls) % 4, len(calls) % 100))
        calls = line(*calls, accept())
        self.assertLessEqual(len(calls), 17000)
        given = parted(answers(calls))
        self.assertEqual(len(given), 400)
        self.assertTrue(all(answer[0] >= 0 for answer in given))

    def test_whole_text_moved_by_turns(self):
        signs = [97] * 2000
        calls = [put(0, signs), put(0, signs), track(1)]
        for number in range(60):
            calls += [author(1 + number % 2), move(0, 2000, 4000)]
        given = parted(answers(line(*calls, accept())))
        # The halves take turns: each move is made by who did not move this half before.
        self.assertEqual([answer[0] for answer in given[4:123:2]][:4], [1, 2, 0, 0])
        self.assertEqual(given[-1], [8000])

    def test_one_sign_at_a_time(self):
        calls = [track(1)]
        for number in range(199):
            calls += [author(1 + number % 2), put(number, "a")]
        given = parted(answers(line(*calls, stretches())))
        self.assertEqual(given[-1][0], 199)
        self.assertEqual(given[-1][-6:], [198, 1, 1, 199, 0, 0])

    def test_questions_among_400_calls_on_thousands_of_signs(self):
        signs = [10 if number % 50 == 49 else 32 + number % 95 for number in range(1000)]
        calls = [put(0, signs) for number in range(3)] + [tag(500, 2500, 999, 1), track(1)]
        asked = [stretches(), where(1500), from_of(0, 3000), from_of(2, 1500), size(), change(3), paragraph(30), where(2999)]
        number = 0
        while len(calls) < 395:
            number += 1
            calls += [author(1 + number % 3), paint(10 * number, 20 * number, number % 4, 5), move(0, 20, 5 * number + 20),
                      cut(number, number + 3), put(2 * number, "abc"), asked[number % 8]]
        calls = calls[:394] + [view(0), view(1), view(2), stretches(), reject(), view(0)]
        self.assertLessEqual(len(line(*calls)), 17000)
        given = parted(answers(line(*calls)))
        model = Model()
        for number, call in enumerate(calls):
            self.assertEqual(given[number], model_answer(model, call), (number, call))

    def test_questions_on_a_row_of_hundreds_of_thousands(self):
        # Two authors move 4000 pieces behind b and before b by turns, so each move leaves 4000 behind that are not shown.
        k, turns = 4000, 30
        calls = [put(0, "b"), put(0, [97] * 2000), put(0, [97] * 2000), track(1)]
        calls += [author(1), move(0, k, k + 1), author(2), move(1, k + 1, 0)] * turns
        asked = {
            (12,): [k + 2, k * (2 * turns + 1) + 2, k + 2, 2 * turns],
            (13, 0): [k * turns, k], (13, k): [k * (turns + 1), k], (13, k + 1): [k * (2 * turns + 1) + 1, k + 1],
            (14, 0, 0): [0], (14, 0, k * turns - 1): [0], (14, 0, k * turns + 5): [5], (14, 0, k * (turns + 1)): [k],
            (14, 0, k * (turns + 1) + 1): [k + 1], (14, 0, k * (2 * turns + 1) + 1): [k + 1],
            (14, 0, k * (2 * turns + 1) + 2): [-1],
            (14, 2, k - 1): [0], (14, 2, k): [k], (14, 2, k + 1): [k + 1], (14, 2, k + 2): [-1],
            (11, 1): [1, 0, 4, 2 * turns * k, k, 0], (11, 2 * turns): [2, 0, 4, k, k, 0],
            (10, 2): [k + 2] + [97, 0, 0, 0, 0, 0] * k + [98, 0, 0, 0, 0, 0, 10, 0, 0, 0, 0, 0],
            (16,): moved_stretches(k, turns),
            (9,): [k * (2 * turns + 1)],
        }
        given = parted(answers(line(*calls, *[list(call) for call in asked])))
        for call, answer in zip(asked, given[len(calls):], strict=True):
            self.assertEqual(answer, asked[call], call)


def moved_stretches(k, turns):
    """The stretches of k pieces that two authors moved before and behind another by turns."""
    runs = [(range(1, m), [m]) for m in range(1, 2 * turns, 2)] + [(range(1, 2 * turns + 1), [])]
    runs += [(range(1, m), [m]) for m in range(2, 2 * turns + 1, 2)]
    answer = [len(runs)]
    for number, (insertions, deletions) in enumerate(runs):
        begin = k * number + (number > turns)
        answer += [begin, k, len(insertions), *insertions, len(deletions), *deletions, 0]
    return answer

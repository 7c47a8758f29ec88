"""The interface, the document's examples, and what the document says of a line."""

import unittest

from tests.support import HUGE, Played, accept, author, clock, cut, line, move, paint, parted, put, stretches, tag, track
from trackedtext.desk import UnknownCall, answers

MIXED = line(author(2), put(0, "abc\ndef"), track(1), clock(5), cut(1, 3), paint(0, 4, 1, 7), move(0, 2, 4),
             tag(0, 3, 9, 1), author(3), move(2, 3, 0), put(9, "x"), put(0, [7]), stretches(), accept(), stretches())


class FormTest(unittest.TestCase):
    def test_each_call_alone(self):
        for call, answer in ((author(1), [1, 0]), (clock(0), [1, 0]), (track(1), [1, 0]), (put(0, "a"), [1, 0]),
                             (cut(0, 1), [1, -1]), (paint(0, 1, 0, 0), [1, 0]), (move(0, 1, 0), [1, -1]),
                             (tag(0, 1, 1, 1), [1, 1]), (accept(), [1, 0]), (stretches(), [1, 0])):
            self.assertEqual(answers(call), answer, call)

    def test_one_behind_another(self):
        self.assertEqual(answers([3, 0, 2, 97, 98, 2, 1, 3, 1, 1, 99, 16, 4, 0, 9, 8]),
                         [1, 0, 1, 0, 1, 1, 7, 1, 1, 1, 1, 1, 0, 0, 1, -1, 1, 1])

    def test_a_put_without_signs_is_read_right(self):
        self.assertEqual(answers([3, 0, 0, 0, 5, 3, 0, 0]), [1, -2, 1, 0, 1, -2])

    def test_signs_that_look_like_calls(self):
        self.assertEqual(answers([3, 0, 3, 8, 16, 10, 8]), [1, -2, 1, 0])

    def test_the_kinds(self):
        given = answers(MIXED)
        self.assertIs(type(given), list)
        self.assertEqual({type(number) for number in given}, {int})

    def test_a_number_that_is_no_call(self):
        for number in (17, -1, HUGE):
            with self.assertRaises(UnknownCall):
                answers([number])


class NothingKeptTest(unittest.TestCase):
    def test_the_list_handed_in_stays(self):
        calls = list(MIXED)
        answers(calls)
        self.assertEqual(calls, MIXED)

    def test_the_answers_are_no_part_of_what_was_handed_in(self):
        calls = list(MIXED)
        self.assertIsNot(answers(calls), calls)

    def test_the_list_is_only_read(self):
        class Read(list):
            def changed(self, *rest):
                raise AssertionError("the list was changed")
            append = extend = insert = pop = remove = clear = sort = reverse = changed
            __setitem__ = __delitem__ = __iadd__ = __imul__ = changed

        self.assertEqual(answers(Read(MIXED)), answers(MIXED))

    def test_two_times_the_same(self):
        first = answers(MIXED)
        answers(line(author(9), clock(7), track(1), put(0, "zz"), paint(0, 3, 2, 5), tag(0, 3, 1, 1)))
        self.assertEqual(answers(MIXED), first)

    def test_each_list_begins_anew(self):
        answers(line(author(9), clock(7), track(1), put(0, "zz"), paint(0, 3, 2, 5), tag(0, 3, 1, 1)))
        self.assertEqual(answers(line(clock(0), tag(0, 1, 1, 1), put(0, "a"), stretches(), cut(0, 2))),
                         [1, 0, 1, 1, 1, 0, 1, 0, 1, -1])


class ExampleTest(unittest.TestCase):
    first = [author(1), put(0, "abc"), track(1), author(2), cut(1, 2), put(1, "X")]
    second = [author(1), put(0, "ab"), track(1), move(0, 1, 2)]

    def test_the_first(self):
        played = Played(*self.first)
        self.assertEqual(played.answers[4:], [[1], [2]])
        self.assertEqual(played.marks(), "a b-1 X+2 c |")
        self.assertEqual(played.accepted(), "aXc|")
        self.assertEqual(played.rejected(), "abc|")
        self.assertEqual(played.then(stretches()).last, [2, 1, 1, 0, 1, 1, 0, 2, 1, 1, 2, 0, 0])

    def test_the_first_when_author_2_cuts(self):
        played = Played(*self.first, cut(1, 2))
        self.assertEqual(played.last, [0])
        self.assertEqual(played.marks(), "a b-1 c |")

    def test_the_first_when_author_3_cuts(self):
        played = Played(*self.first, author(3), cut(1, 2))
        self.assertEqual(played.last, [3])
        self.assertEqual(played.marks(), "a b-1 X+2-3 c |")
        self.assertEqual(played.accepted(), "ac|")
        self.assertEqual(played.rejected(), "abc|")
        self.assertEqual(played.then(accept()).last, [2])
        self.assertEqual(played.marks(), "a c |")

    def test_the_second(self):
        played = Played(*self.second)
        self.assertEqual(played.last, [1])
        self.assertEqual(played.marks(), "a-1 b a+1 |")
        played.then(author(2), move(1, 2, 0))
        self.assertEqual(played.last, [2])
        self.assertEqual(played.marks(), "a-1 a+1+2 b a+1-2 |")
        self.assertEqual(played.accepted(), "ab|")
        self.assertEqual(played.rejected(), "ab|")
        self.assertEqual(played.then(accept()).last, [3])
        self.assertEqual(played.marks(), "a b |")


class LongTest(unittest.TestCase):
    def test_400_calls_on_thousands_of_signs(self):
        signs = [32 + number % 95 for number in range(2000)]
        calls = [put(0, signs) for number in range(6)] + [track(1)]
        while len(calls) < 399:
            calls.append(author(1 + len(calls) % 3))
            calls.append(move(0, 6000, 12000) if len(calls) % 20 == 8 else paint(0, 12001, len(calls) % 4, len(calls) % 100))
        calls = line(*calls, accept())
        self.assertLessEqual(len(calls), 17000)
        given = parted(answers(calls))
        self.assertEqual(len(given), 400)
        self.assertTrue(all(answer[0] >= 0 for answer in given))

    def test_whole_text_moved_by_turns(self):
        signs = [97] * 2000
        calls = [put(0, signs), put(0, signs), track(1)]
        for number in range(60):
            calls += [author(1 + number % 2), move(0, 2000, 4000)]
        given = parted(answers(line(*calls, accept())))
        # The halves take turns: each move is made by who did not move this half before.
        self.assertEqual([answer[0] for answer in given[4:123:2]][:4], [1, 2, 0, 0])
        self.assertEqual(given[-1], [8000])

    def test_one_sign_at_a_time(self):
        calls = [track(1)]
        for number in range(199):
            calls += [author(1 + number % 2), put(number, "a")]
        given = parted(answers(line(*calls, stretches())))
        self.assertEqual(given[-1][0], 199)
        self.assertEqual(given[-1][-6:], [198, 1, 1, 199, 0, 0])

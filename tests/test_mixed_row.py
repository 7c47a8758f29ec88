"""Promises 10 to 18 on one row in which all kinds of marks stand side by side."""

import unittest

from tests.support import HUGE, PLAIN, Played, accept, author, change, clock, cut, from_of, move, paint, paragraph
from tests.support import put, reject, size, stretches, tag, told_pieces, told_stretches, told_text, track, view, where

CALLS = [
    put(0, "abcdefg\nh"), tag(0, 3, 1, 1), tag(2, 5, 999, 1), paint(1, 2, 0, 9), track(1),
    author(2), clock(5), put(2, "XY"), cut(0, 1),
    author(3), clock(7), cut(2, 3), paint(1, 2, 0, 5), paint(1, 2, 0, 6), paint(1, 4, 3, 7),
    author(4), move(4, 6, 8), paint(3, 5, 0, 1), cut(2, 3),
    author(5), paint(8, 9, 1, 4), move(1, 2, 0),
]
NINE = (9, 0, 0, 0)
THREE_LOOKS = [(4, 0, 5), (5, 0, 6), (6, 3, 7)]
ROW = [
    (97, PLAIN, [], [2], [], [1]),
    (88, NINE, [1, 11], [], THREE_LOOKS, [1]),
    (98, NINE, [], [], [], [1]),
    (88, NINE, [1], [11], THREE_LOOKS, [1]),
    (89, NINE, [1], [3], [], [1]),
    (99, PLAIN, [], [9], [(6, 3, 7)], [1, 999]),
    (100, PLAIN, [], [], [(6, 3, 7), (8, 0, 1)], [999]),
    (101, PLAIN, [], [7], [], [999]),
    (102, PLAIN, [], [7], [], []),
    (103, PLAIN, [], [], [(8, 0, 1)], []),
    (10, PLAIN, [], [], [], []),
    (101, PLAIN, [7], [], [], [999]),
    (102, PLAIN, [7], [], [], []),
    (104, PLAIN, [], [], [], []),
    (10, PLAIN, [], [], [(10, 1, 4)], []),
]
ACCEPTED = [
    (88, (6, 0, 0, 7), [1]), (98, NINE, [1]), (100, (1, 0, 0, 7), [999]), (103, (1, 0, 0, 0), []), (10, PLAIN, []),
    (101, PLAIN, [999]), (102, PLAIN, []), (104, PLAIN, []), (10, (0, 4, 0, 0), []),
]
REJECTED = [
    (97, PLAIN, [1]), (98, NINE, [1]), (99, PLAIN, [1, 999]), (100, PLAIN, [999]), (101, PLAIN, [999]),
    (102, PLAIN, []), (103, PLAIN, []), (10, PLAIN, []), (104, PLAIN, []), (10, PLAIN, []),
]
CHANGES = [
    [2, 5, 1, 3, 0, 0], [2, 5, 2, 0, 1, 0], [3, 7, 2, 0, 1, 0], [3, 7, 3, 0, 0, 2], [3, 7, 3, 0, 0, 2],
    [3, 7, 3, 0, 0, 4], [4, 7, 4, 2, 2, 0], [4, 7, 3, 0, 0, 2], [4, 7, 2, 0, 1, 0], [5, 7, 3, 0, 0, 1],
    [5, 7, 4, 1, 1, 0],
]
WHERE = [[1, 1], [2, 1], [6, 3], [9, 6], [10, 7], [11, 8], [12, 8], [13, 8], [14, 9]]
FROM_ALL = [0, 0, 1, 2, 2, 2, 2, 3, 3, 3, 4, 5, 6, 7, 8]
FROM_ORIGINAL = [0, 1, 2, 2, 3, 3, 3, 4, 7, 8]
STRETCHES = [
    (0, 1, [], [2], []),
    (1, 1, [1, 11], [], THREE_LOOKS),
    (3, 1, [1], [11], THREE_LOOKS),
    (4, 1, [1], [3], []),
    (5, 1, [], [9], [(6, 3, 7)]),
    (6, 1, [], [], [(6, 3, 7), (8, 0, 1)]),
    (7, 2, [], [7], []),
    (9, 1, [], [], [(8, 0, 1)]),
    (11, 2, [7], [], []),
    (14, 1, [], [], [(10, 1, 4)]),
]


def plain_row(text):
    return [(sign, look, [], [], [], tags) for sign, look, tags in text]


class MixedRowTest(unittest.TestCase):
    def setUp(self):
        self.played = Played(*CALLS)

    def ask(self, call):
        return self.played.ask(call)

    def test_the_row(self):
        self.assertEqual(self.played.row(), ROW)
        self.assertEqual([answer[0] for answer in self.played.answers[5:] if answer != [0]], list(range(1, 12)))

    def test_the_views(self):
        self.assertEqual(told_pieces(self.ask(view(0))), ROW)
        self.assertEqual(told_text(self.ask(view(1))), ACCEPTED)
        self.assertEqual(told_text(self.ask(view(2))), REJECTED)
        for w in (-1, 3, HUGE, -HUGE):
            self.assertEqual(self.ask(view(w)), [-2])

    def test_the_changes(self):
        for c, told in enumerate(CHANGES, start=1):
            self.assertEqual(self.ask(change(c)), told, c)
        for c in (0, 12, -1, HUGE, -HUGE):
            self.assertEqual(self.ask(change(c)), [-4], c)

    def test_the_size(self):
        self.assertEqual(self.ask(size()), [9, 15, 10, 11])

    def test_where(self):
        for p, told in enumerate(WHERE):
            self.assertEqual(self.ask(where(p)), told, p)
        for p in (-1, 9, HUGE, -HUGE):
            self.assertEqual(self.ask(where(p)), [-1], p)

    def test_from(self):
        for w, told in ((0, FROM_ALL), (2, FROM_ORIGINAL)):
            for i, shown in enumerate(told):
                self.assertEqual(self.ask(from_of(w, i)), [shown], (w, i))
            for i in (-1, len(told), HUGE, -HUGE):
                self.assertEqual(self.ask(from_of(w, i)), [-1], (w, i))

    def test_the_paragraphs(self):
        self.assertEqual([self.ask(paragraph(i)) for i in (-1, 0, 1, 2)], [[-1], [0, 5], [5, 9], [-1]])

    def test_the_stretches(self):
        self.assertEqual(told_stretches(self.ask(stretches())), STRETCHES)

    def test_accept_makes_the_accepted_text(self):
        self.assertEqual(self.played.then(accept()).last, [12])
        self.assertEqual(self.played.row(), plain_row(ACCEPTED))
        for w in (1, 2):
            self.assertEqual(told_text(self.ask(view(w))), ACCEPTED)
        self.assertEqual(self.ask(size()), [9, 9, 9, 11])

    def test_reject_makes_the_rejected_text(self):
        self.assertEqual(self.played.then(reject()).last, [12])
        self.assertEqual(self.played.row(), plain_row(REJECTED))
        for w in (1, 2):
            self.assertEqual(told_text(self.ask(view(w))), REJECTED)
        self.assertEqual(self.ask(size()), [10, 10, 10, 11])

    def test_behind_both_the_changes_are_told_without_pieces(self):
        for settle in (accept(), reject()):
            played = Played(*CALLS, settle)
            for c, told in enumerate(CHANGES, start=1):
                self.assertEqual(played.ask(change(c)), told[:3] + [0, 0, 0])
            self.assertEqual(played.ask(stretches()), [0])
            self.assertEqual(played.then(put(0, "n")).last, [12])
            self.assertEqual(played.ask(change(12)), [5, 7, 1, 1, 0, 0])

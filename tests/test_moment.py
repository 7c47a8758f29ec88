"""Promises 1 to 3: author, clock, track."""

import unittest

from tests.support import HUGE, Played, assert_refused, author, clock, paint, put, track


class AuthorTest(unittest.TestCase):
    def test_a_new_document_has_author_1(self):
        self.assertEqual(Played(track(1), put(0, "a")).changes(), [(1, 0, 1)])

    def test_the_author_holds_for_the_changes_behind(self):
        played = Played(track(1), put(0, "a"), author(99), put(0, "b"), author(2), put(0, "c"))
        self.assertEqual(played.changes(), [(1, 0, 1), (99, 0, 1), (2, 0, 1)])

    def test_edges(self):
        for a in (1, 2, 99):
            played = Played(author(a))
            self.assertEqual(played.last, [0])
            self.assertEqual(played.document.author, a)

    def test_refused(self):
        for a in (0, 100, -1, HUGE, -HUGE):
            assert_refused(self, [author(7)], author(a), -2)


class ClockTest(unittest.TestCase):
    def test_a_new_document_has_time_0(self):
        self.assertEqual(Played(clock(0)).last, [0])
        self.assertEqual(Played(track(1), put(0, "a")).changes(), [(1, 0, 1)])

    def test_the_time_holds_for_the_changes_behind(self):
        played = Played(track(1), clock(5), put(0, "a"), clock(HUGE), put(0, "b"))
        self.assertEqual(played.changes(), [(1, 5, 1), (1, HUGE, 1)])

    def test_the_same_time_again_is_taken(self):
        played = Played(clock(5), clock(5))
        self.assertEqual(played.answers, [[0], [0]])
        self.assertEqual(played.document.time, 5)

    def test_below_the_time_of_the_moment(self):
        for t in (4, 0):
            assert_refused(self, [clock(5)], clock(t), -3)

    def test_below_0_comes_first(self):
        for t in (-1, -HUGE):
            assert_refused(self, [clock(5)], clock(t), -2)
            assert_refused(self, [clock(0)], clock(t), -2)


class TrackTest(unittest.TestCase):
    def test_a_new_document_is_not_tracked(self):
        self.assertEqual(Played(put(0, "a")).last, [0])

    def test_on_and_off(self):
        played = Played(track(1), put(0, "a"), track(0), put(0, "b"), track(1), track(1), put(0, "c"))
        self.assertEqual(played.answers, [[0], [1], [0], [0], [0], [0], [2]])
        self.assertEqual(played.marks(), "c+2 b a+1 |")

    def test_no_piece_changes(self):
        played = Played(put(0, "ab"), track(1), author(2), put(1, "c"), paint(0, 2, 1, 4))
        row = played.row()
        self.assertEqual(played.then(track(0)).row(), row)
        self.assertEqual(played.then(track(1)).row(), row)

    def test_refused(self):
        for on in (-1, 2, HUGE, -HUGE):
            assert_refused(self, [], track(on), -2)
            assert_refused(self, [track(1)], track(on), -2)

"""Promise 10: accept."""

import unittest

from tests.support import PLAIN, Played, accept, author, clock, cut, move, paint, put, tag, track


class AcceptTest(unittest.TestCase):
    def test_a_new_document(self):
        played = Played(accept())
        self.assertEqual(played.last, [0])
        self.assertEqual(played.row(), [(10, PLAIN, [], [], [], [])])

    def test_nothing_marked(self):
        played = Played(put(0, "ab"), tag(0, 1, 3, 1), paint(0, 1, 1, 2))
        row = played.row()
        self.assertEqual(played.then(accept()).last, [0])
        self.assertEqual(played.row(), row)

    def test_insertions_are_settled(self):
        played = Played(put(0, "ab"), track(1), put(1, "xy"), accept())
        self.assertEqual(played.last, [2])
        self.assertEqual(played.marks(), "a x y b |")

    def test_deletions_are_carried_out(self):
        played = Played(put(0, "abcd"), track(1), cut(1, 3), accept())
        self.assertEqual(played.last, [2])
        self.assertEqual(played.marks(), "a d |")

    def test_an_insertion_that_was_deleted_goes(self):
        played = Played(track(1), author(2), put(0, "ab"), author(3), cut(0, 1), accept())
        self.assertEqual(played.last, [2])
        self.assertEqual(played.marks(), "b |")

    def test_pending_looks_become_the_own_look(self):
        played = Played(put(0, "ab"), paint(0, 1, 0, 9), track(1), paint(0, 1, 1, 3), paint(0, 1, 1, 4), paint(0, 3, 2, 5))
        self.assertEqual(played.then(accept()).last, [3])
        self.assertEqual(played.own_looks(), [(9, 4, 5, 0), (0, 0, 5, 0), (0, 0, 5, 0)])
        self.assertEqual(played.pending(), [[], [], []])

    def test_a_move_is_settled(self):
        played = Played(put(0, "abc"), tag(0, 1, 8, 1), track(1), move(0, 1, 2), accept())
        self.assertEqual(played.last, [2])
        self.assertEqual(played.marks(), "b a c |")
        self.assertEqual(played.tags(), [[], [8], [], []])

    def test_every_marked_piece_counts_once(self):
        played = Played(put(0, "abcd"), track(1), author(2), put(4, "x"), author(3), paint(0, 5, 0, 1), cut(3, 5), accept())
        self.assertEqual(played.last, [5])
        self.assertEqual(played.marks(), "a b c |")

    def test_it_does_the_same_tracked_or_not(self):
        base = [put(0, "abc"), track(1), cut(0, 1), put(0, "x")]
        self.assertEqual(Played(*base, accept()).whole()[0], Played(*base, track(0), accept()).whole()[0])

    def test_changes_stay_entered(self):
        played = Played(track(1), clock(4), put(0, "a"), accept(), put(0, "b"))
        self.assertEqual(played.last, [2])
        self.assertEqual(played.changes(), [(1, 4, 1), (1, 4, 1)])

    def test_what_was_own_is_not_own_any_longer(self):
        played = Played(track(1), put(0, "ab"), accept(), cut(0, 1))
        self.assertEqual(played.last, [2])
        self.assertEqual(played.marks(), "a-2 b |")

    def test_twice(self):
        self.assertEqual(Played(track(1), put(0, "ab"), accept(), accept()).last, [0])

    def test_author_time_and_tracking_stay(self):
        played = Played(author(5), clock(6), track(1), put(0, "a"), accept(), put(0, "b"))
        self.assertEqual(played.changes()[1], (5, 6, 1))

    def test_places_behind_it(self):
        played = Played(put(0, "abcd"), track(1), cut(1, 3), accept(), track(0), put(1, "x"), tag(0, 4, 1, 1))
        self.assertEqual(played.marks(), "a x d |")
        self.assertEqual(played.last, [4])

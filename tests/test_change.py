"""Promise 13: change, and that a change stays entered for ever."""

import unittest

from tests.support import HUGE, Played, accept, assert_refused, author, change, clock, cut, move, paint, put, reject, track


class ChangeTest(unittest.TestCase):
    def test_each_kind(self):
        played = Played(put(0, "abcd"), track(1), author(7), clock(3), put(0, "xyz"), author(8), clock(4), cut(3, 5),
                        author(99), clock(HUGE), paint(0, 6, 2, 5), author(1), move(3, 5, 0))
        self.assertEqual(played.ask(change(1)), [7, 3, 1, 3, 0, 0])
        self.assertEqual(played.ask(change(2)), [8, 4, 2, 0, 2, 0])
        self.assertEqual(played.ask(change(3)), [99, HUGE, 3, 0, 0, 8])
        self.assertEqual(played.ask(change(4)), [1, HUGE, 4, 2, 2, 0])

    def test_a_copy_bears_what_the_piece_bore(self):
        played = Played(track(1), put(0, "ab"), author(2), paint(0, 1, 0, 4), move(0, 1, 2))
        self.assertEqual(played.marks(), "a+1-3 b+1 a+1+3 |")
        self.assertEqual(played.ask(change(1)), [1, 0, 1, 3, 0, 0])
        self.assertEqual(played.ask(change(2)), [2, 0, 3, 0, 0, 2])
        self.assertEqual(played.ask(change(3)), [2, 0, 4, 1, 1, 0])

    def test_pieces_that_are_not_shown_count(self):
        played = Played(track(1), put(0, "ab"), author(2), paint(0, 2, 1, 1), cut(0, 2))
        self.assertEqual(played.ask(change(1)), [1, 0, 1, 2, 0, 0])
        self.assertEqual(played.ask(change(2)), [2, 0, 3, 0, 0, 2])
        self.assertEqual(played.ask(change(3)), [2, 0, 2, 0, 2, 0])

    def test_a_change_that_no_piece_bears_any_longer(self):
        base = [track(1), author(4), clock(9), put(0, "ab")]
        for last in (cut(0, 2), accept(), reject()):
            played = Played(*base, last)
            self.assertEqual(played.ask(change(1)), [4, 9, 1, 0, 0, 0])
            self.assertEqual(played.then(put(0, "c")).last, [2])

    def test_pending_looks_that_went(self):
        played = Played(put(0, "ab"), track(1), paint(0, 2, 1, 5), track(0), paint(0, 1, 1, 6))
        self.assertEqual(played.ask(change(1)), [1, 0, 3, 0, 0, 1])
        self.assertEqual(played.then(paint(1, 2, 1, 6)).ask(change(1)), [1, 0, 3, 0, 0, 0])

    def test_pending_looks_of_several_changes_on_a_piece(self):
        played = Played(put(0, "ab"), track(1), paint(0, 1, 1, 5), paint(0, 2, 1, 6), paint(0, 1, 2, 6))
        self.assertEqual([played.ask(change(c))[5] for c in (1, 2, 3)], [1, 2, 1])

    def test_a_command_that_entered_none(self):
        played = Played(track(1), put(0, "ab"), cut(0, 1), paint(0, 1, 0, 1), put(0, []), cut(5, 6))
        self.assertEqual([answer[0] for answer in played.answers], [0, 1, 0, 0, -2, -1])
        self.assertEqual(played.ask(change(2)), [-4])

    def test_the_edges_of_c(self):
        base = [put(0, "ab"), track(1), put(0, "x"), put(0, "y"), put(0, "z")]
        self.assertEqual(Played(*base, change(1)).last, [1, 0, 1, 1, 0, 0])
        self.assertEqual(Played(*base, change(3)).last, [1, 0, 1, 1, 0, 0])
        for c in (0, 4, -1, HUGE, -HUGE):
            assert_refused(self, base, change(c), -4)

    def test_where_none_is_entered(self):
        for c in (0, 1, -1, HUGE, -HUGE):
            assert_refused(self, [], change(c), -4)
            assert_refused(self, [put(0, "ab"), cut(0, 1)], change(c), -4)

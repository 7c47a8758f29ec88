"""Promise 6: cut, and what promise 4 says of it."""

import unittest

from tests.support import HUGE, Played, assert_refused, author, clock, cut, paint, put, tag, track


class CutTest(unittest.TestCase):
    def test_not_tracked_the_pieces_go(self):
        played = Played(put(0, "abcd"), cut(1, 3))
        self.assertEqual(played.last, [0])
        self.assertEqual(played.marks(), "a d |")

    def test_not_tracked_what_is_marked_goes_too(self):
        played = Played(put(0, "ab"), track(1), author(2), put(1, "x"), paint(0, 2, 0, 1), track(0), author(3), cut(0, 2))
        self.assertEqual(played.last, [0])
        self.assertEqual(played.marks(), "b |")
        self.assertEqual(len(played.changes()), 2)

    def test_tracked_the_pieces_stay(self):
        played = Played(put(0, "abcd"), track(1), author(4), clock(6), cut(1, 3))
        self.assertEqual(played.last, [1])
        self.assertEqual(played.marks(), "a b-1 c-1 d |")
        self.assertEqual(played.changes(), [(4, 6, 2)])
        self.assertEqual(played.accepted(), "ad|")
        self.assertEqual(played.rejected(), "abcd|")

    def test_tracked_own_pieces_go(self):
        played = Played(track(1), author(2), put(0, "abc"), cut(0, 2))
        self.assertEqual(played.last, [0])
        self.assertEqual(played.marks(), "c+1 |")
        self.assertEqual(len(played.changes()), 1)

    def test_another_author_s_insertion_stays(self):
        played = Played(track(1), author(2), put(0, "abc"), author(3), cut(0, 2))
        self.assertEqual(played.last, [2])
        self.assertEqual(played.marks(), "a+1-2 b+1-2 c+1 |")

    def test_own_and_others_together(self):
        played = Played(put(0, "ab"), track(1), author(2), put(1, "xy"), author(3), put(2, "z"), author(2), cut(0, 5))
        self.assertEqual(played.last, [3])
        self.assertEqual(played.marks(), "a-3 z+2-3 b-3 |")

    def test_own_is_by_author_not_by_change(self):
        played = Played(track(1), author(2), put(0, "a"), put(1, "b"), author(3), author(2), cut(0, 2))
        self.assertEqual(played.last, [0])
        self.assertEqual(played.marks(), "|")

    def test_pieces_between_that_are_not_shown_stay_as_they_are(self):
        base = [put(0, "abcde"), track(1), cut(1, 2), cut(2, 3)]
        self.assertEqual(Played(*base).marks(), "a b-1 c d-2 e |")
        self.assertEqual(Played(*base, cut(0, 3)).marks(), "a-3 b-1 c-3 d-2 e-3 |")
        self.assertEqual(Played(*base, cut(1, 2)).marks(), "a b-1 c-3 d-2 e |")
        self.assertEqual(Played(*base, track(0), cut(0, 3)).marks(), "b-1 d-2 |")
        self.assertEqual(Played(*base, track(0), cut(1, 2)).marks(), "a b-1 d-2 e |")

    def test_the_rest_of_the_piece_stays(self):
        played = Played(put(0, "a"), paint(0, 1, 0, 5), tag(0, 1, 7, 1), track(1), author(2), paint(0, 1, 1, 6), cut(0, 1))
        self.assertEqual(played.row()[0], (97, (5, 0, 0, 0), [], [2], [(1, 1, 6)], [7]))

    def test_a_number_that_no_command_used_up_is_used_again(self):
        played = Played(put(0, "a"), track(1), put(1, "b"), cut(1, 2), cut(0, 1))
        self.assertEqual(played.answers[2:], [[1], [0], [2]])
        self.assertEqual(played.marks(), "a-2 |")

    def test_edges(self):
        self.assertEqual(Played(put(0, "abc"), cut(0, 3)).marks(), "|")
        self.assertEqual(Played(put(0, "abc"), cut(0, 1)).marks(), "b c |")
        self.assertEqual(Played(put(0, "abc"), cut(2, 3)).marks(), "a b |")

    def test_refused(self):
        for p, q in ((0, 4), (3, 4), (0, 5), (-1, 2), (1, 1), (2, 1), (3, 3), (0, 0),
                     (0, HUGE), (-HUGE, 2), (-HUGE, HUGE), (HUGE, -HUGE)):
            assert_refused(self, [put(0, "abc")], cut(p, q), -1)
            assert_refused(self, [put(0, "abc"), track(1)], cut(p, q), -1)

    def test_the_last_end_is_never_cut(self):
        assert_refused(self, [], cut(0, 1), -1)

    def test_places_count_shown_pieces_alone(self):
        assert_refused(self, [put(0, "abc"), track(1), cut(0, 1)], cut(0, 3), -1)

"""Promise 7: paint, and what promise 4 says of it."""

import unittest

from tests.support import HUGE, PLAIN, Played, assert_refused, author, clock, cut, move, paint, put, track


class PaintTest(unittest.TestCase):
    def test_not_tracked(self):
        played = Played(put(0, "abc"), paint(1, 3, 2, 40))
        self.assertEqual(played.last, [0])
        self.assertEqual(played.own_looks(), [PLAIN, (0, 0, 40, 0), (0, 0, 40, 0), PLAIN])
        self.assertEqual(played.pending(), [[]] * 4)

    def test_each_property(self):
        for k in range(4):
            look = tuple(99 if number == k else 0 for number in range(4))
            self.assertEqual(Played(paint(0, 1, k, 99)).own_looks(), [look])

    def test_tracked(self):
        played = Played(put(0, "abc"), track(1), author(5), clock(9), paint(1, 3, 2, 40))
        self.assertEqual(played.last, [1])
        self.assertEqual(played.own_looks(), [PLAIN] * 4)
        self.assertEqual(played.pending(), [[], [(1, 2, 40)], [(1, 2, 40)], []])
        self.assertEqual(played.changes(), [(5, 9, 3)])

    def test_tracked_the_same_author_again_adds_an_entry(self):
        played = Played(put(0, "a"), track(1), paint(0, 1, 2, 4), paint(0, 1, 1, 5), paint(0, 1, 2, 6))
        self.assertEqual(played.last, [3])
        self.assertEqual(played.pending()[0], [(1, 2, 4), (2, 1, 5), (3, 2, 6)])
        self.assertEqual(played.looks_shown()[0], (0, 5, 6, 0))

    def test_tracked_nothing_happens_where_the_value_is_shown_already(self):
        played = Played(put(0, "ab"), paint(0, 1, 1, 3), track(1), paint(0, 2, 1, 3))
        self.assertEqual(played.last, [1])
        self.assertEqual(played.pending(), [[], [(1, 1, 3)], []])
        self.assertEqual(played.then(paint(0, 2, 1, 3)).last, [0])
        self.assertEqual(played.pending(), [[], [(1, 1, 3)], []])
        self.assertEqual(len(played.changes()), 1)

    def test_tracked_back_to_the_own_look_is_an_entry(self):
        played = Played(put(0, "a"), track(1), paint(0, 1, 1, 3), paint(0, 1, 1, 0), paint(0, 1, 1, 0))
        self.assertEqual(played.answers[2:], [[1], [2], [0]])
        self.assertEqual(played.pending()[0], [(1, 1, 3), (2, 1, 0)])

    def test_the_last_entry_of_the_property_counts(self):
        played = Played(put(0, "a"), track(1), paint(0, 1, 1, 3), paint(0, 1, 1, 4), paint(0, 1, 2, 3), paint(0, 1, 1, 4))
        self.assertEqual(played.last, [0])
        self.assertEqual(played.then(paint(0, 1, 1, 3)).last, [4])

    def test_tracked_own_pieces_are_painted_at_once(self):
        played = Played(track(1), author(2), put(0, "a"), author(3), put(1, "b"), author(2), paint(0, 3, 0, 1))
        self.assertEqual(played.last, [3])
        self.assertEqual(played.own_looks(), [(1, 0, 0, 0), PLAIN, PLAIN])
        self.assertEqual(played.pending(), [[], [(3, 0, 1)], [(3, 0, 1)]])

    def test_own_pieces_alone_enter_no_change(self):
        played = Played(track(1), put(0, "ab"), paint(0, 2, 0, 1))
        self.assertEqual(played.last, [0])
        self.assertEqual(len(played.changes()), 1)

    def test_painted_at_once_the_pending_looks_of_the_property_go(self):
        base = [track(1), author(2), put(0, "a"), author(3)]
        entries = [paint(0, 1, 1, 4), paint(0, 1, 2, 5), paint(0, 1, 1, 6)]
        left = [(3, 2, 5)]
        own = Played(*base, *entries, author(2), paint(0, 1, 1, 7))
        off = Played(*base, *entries, track(0), paint(0, 1, 1, 7))
        for played in (own, off):
            self.assertEqual(played.last, [0])
            self.assertEqual(played.row()[0], (97, (0, 7, 0, 0), [1], [], left, []))
            self.assertEqual(played.looks_shown()[0], (0, 7, 5, 0))

    def test_painted_at_once_with_the_value_shown_the_pending_looks_go_too(self):
        played = Played(put(0, "a"), track(1), paint(0, 1, 1, 4), track(0), paint(0, 1, 1, 4))
        self.assertEqual(played.last, [0])
        self.assertEqual(played.row()[0], (97, (0, 4, 0, 0), [], [], [], []))
        self.assertEqual(len(played.changes()), 1)

    def test_behind_painting_at_once_the_look_as_shown_is_right(self):
        played = Played(put(0, "a"), track(1), paint(0, 1, 1, 4), paint(0, 1, 3, 8), track(0), paint(0, 1, 1, 0), put(1, "x"))
        self.assertEqual(played.own_looks()[1], (0, 0, 0, 8))

    def test_pieces_that_are_not_shown_are_passed_over(self):
        base = [put(0, "abc"), track(1), cut(1, 2)]
        self.assertEqual(Played(*base, paint(0, 2, 0, 5)).pending(), [[(2, 0, 5)], [], [(2, 0, 5)], []])
        self.assertEqual(Played(*base, track(0), paint(0, 2, 0, 5)).own_looks(),
                         [(5, 0, 0, 0), PLAIN, (5, 0, 0, 0), PLAIN])

    def test_a_piece_moved_by_another_author_is_not_own(self):
        base = [track(1), author(2), put(0, "ab"), author(3), move(0, 1, 2)]
        self.assertEqual(Played(*base).marks(), "a+1-2 b+1 a+1+2 |")
        self.assertEqual(Played(*base, author(2), paint(1, 2, 0, 5)).pending()[2], [(3, 0, 5)])
        self.assertEqual(Played(*base, paint(1, 2, 0, 5)).last, [0])

    def test_the_last_end_can_be_painted(self):
        played = Played(put(0, "a"), track(1), paint(1, 2, 3, 1))
        self.assertEqual(played.last, [1])
        self.assertEqual(played.pending(), [[], [(1, 3, 1)]])

    def test_the_edges_of_k_and_v(self):
        for k, v in ((0, 0), (0, 99), (3, 0), (3, 99)):
            self.assertEqual(Played(paint(0, 1, k, v)).last, [0])
            self.assertEqual(Played(paint(0, 1, k, v)).own_looks()[0][k], v)

    def test_places_refused(self):
        for p, q in ((0, 5), (-1, 2), (1, 1), (2, 1), (4, 4), (4, 5), (0, 0),
                     (0, HUGE), (-HUGE, 2), (-HUGE, HUGE), (HUGE, -HUGE)):
            assert_refused(self, [put(0, "abc")], paint(p, q, 0, 1), -1)
            assert_refused(self, [put(0, "abc"), track(1)], paint(p, q, 0, 1), -1)

    def test_properties_and_values_refused(self):
        for k, v in ((4, 0), (-1, 0), (0, 100), (0, -1), (HUGE, 0), (-HUGE, 0), (0, HUGE), (0, -HUGE), (4, 100)):
            assert_refused(self, [put(0, "abc")], paint(0, 4, k, v), -2)
            assert_refused(self, [put(0, "abc"), track(1)], paint(0, 1, k, v), -2)

    def test_the_places_are_looked_at_first(self):
        assert_refused(self, [put(0, "abc")], paint(0, 5, 4, 100), -1)
        assert_refused(self, [put(0, "abc")], paint(1, 1, -1, 0), -1)

"""Promise 8: move, and what promise 4 says of it."""

import unittest

from tests.support import HUGE, Played, assert_refused, author, clock, cut, move, paint, put, tag, track


class PlacesTest(unittest.TestCase):
    def test_not_tracked(self):
        for p, q, r, row in ((0, 1, 2, "b a c d |"), (0, 2, 3, "c a b d |"), (1, 3, 0, "b c a d |"),
                             (0, 3, 4, "d a b c |"), (3, 4, 0, "d a b c |"), (2, 3, 1, "a c b d |"),
                             (1, 2, 4, "a c d b |")):
            played = Played(put(0, "abcd"), move(p, q, r))
            self.assertEqual(played.last, [0])
            self.assertEqual(played.marks(), row, (p, q, r))

    def test_tracked(self):
        for p, q, r, row in ((0, 1, 2, "a-1 b a+1 c d |"), (0, 2, 3, "a-1 b-1 c a+1 b+1 d |"),
                             (1, 3, 0, "b+1 c+1 a b-1 c-1 d |"), (0, 3, 4, "a-1 b-1 c-1 d a+1 b+1 c+1 |"),
                             (3, 4, 0, "d+1 a b c d-1 |")):
            played = Played(put(0, "abcd"), track(1), author(8), clock(3), move(p, q, r))
            self.assertEqual(played.last, [1])
            self.assertEqual(played.marks(), row, (p, q, r))
            self.assertEqual(played.changes(), [(8, 3, 4)])
            self.assertEqual(played.rejected(), "abcd|")

    def test_refused_for_a_place_within(self):
        for p, q, r in ((1, 3, 1), (1, 3, 2), (1, 3, 3), (0, 1, 0), (0, 1, 1), (0, 4, 4), (3, 4, 4), (0, 4, 0)):
            assert_refused(self, [put(0, "abcd")], move(p, q, r), -3)
            assert_refused(self, [put(0, "abcd"), track(1)], move(p, q, r), -3)

    def test_refused_for_places_outside(self):
        for p, q, r in ((0, 5, 0), (4, 5, 0), (-1, 2, 3), (1, 1, 3), (2, 1, 4), (0, 1, 5), (2, 3, -1), (4, 4, 0),
                        (0, 1, HUGE), (0, 1, -HUGE), (0, HUGE, 0), (-HUGE, 1, 2), (HUGE, -HUGE, 0)):
            assert_refused(self, [put(0, "abcd")], move(p, q, r), -1)
            assert_refused(self, [put(0, "abcd"), track(1)], move(p, q, r), -1)

    def test_outside_is_looked_at_first(self):
        assert_refused(self, [put(0, "abcd")], move(0, 5, 3), -1)
        assert_refused(self, [put(0, "abcd")], move(0, 5, 5), -1)
        assert_refused(self, [put(0, "abcd")], move(1, 1, 1), -1)
        assert_refused(self, [put(0, "abcd")], move(-1, 2, -1), -1)

    def test_the_last_end_is_never_moved(self):
        assert_refused(self, [], move(0, 1, 0), -1)
        assert_refused(self, [put(0, "a")], move(1, 2, 0), -1)


class HiddenTest(unittest.TestCase):
    base = [put(0, "abcdef"), track(1), author(2), cut(1, 2), cut(2, 3), cut(3, 4)]

    def test_the_base(self):
        self.assertEqual(Played(*self.base).marks(), "a b-1 c d-2 e f-3 |")

    def test_what_comes_stands_behind_what_is_not_shown(self):
        self.assertEqual(Played(*self.base, move(2, 3, 1)).marks(), "a b-1 e+4 c d-2 e-4 f-3 |")
        self.assertEqual(Played(*self.base, move(0, 1, 2)).marks(), "a-4 b-1 c d-2 a+4 e f-3 |")
        self.assertEqual(Played(*self.base, move(0, 1, 3)).marks(), "a-4 b-1 c d-2 e f-3 a+4 |")

    def test_what_is_not_shown_within_the_stretch_stays(self):
        self.assertEqual(Played(*self.base, move(1, 3, 0)).marks(), "c+4 e+4 a b-1 c-4 d-2 e-4 f-3 |")
        self.assertEqual(Played(*self.base, track(0), move(1, 3, 0)).marks(), "c e a b-1 d-2 f-3 |")
        self.assertEqual(Played(*self.base, move(0, 2, 3)).marks(), "a-4 b-1 c-4 d-2 e f-3 a+4 c+4 |")
        self.assertEqual(Played(*self.base, track(0), move(0, 2, 3)).marks(), "b-1 d-2 e f-3 a c |")

    def test_to_the_row_s_beginning_behind_what_is_not_shown(self):
        played = Played(put(0, "abc"), track(1), cut(0, 1), move(1, 2, 0))
        self.assertEqual(played.marks(), "a-1 c+2 b c-2 |")

    def test_places_count_shown_pieces_alone(self):
        assert_refused(self, self.base, move(0, 1, 4), -1)
        assert_refused(self, self.base, move(2, 4, 0), -1)

    def test_places_behind_a_move_are_right(self):
        played = Played(*self.base, move(0, 1, 3), cut(0, 1), put(0, "x"), put(2, "y"))
        self.assertEqual(played.marks(), "a-4 b-1 c-5 d-2 x+6 e f-3 y+7 a+4 |")


class CopyTest(unittest.TestCase):
    def test_own_pieces_come_over_themselves(self):
        played = Played(track(1), author(2), put(0, "ab"), author(3), paint(0, 1, 0, 5), author(2), move(0, 1, 2))
        self.assertEqual(played.last, [0])
        self.assertEqual(played.marks(), "b+1 a+1 |")
        self.assertEqual(played.pending(), [[], [(2, 0, 5)], []])
        self.assertEqual(len(played.changes()), 2)

    def test_own_and_others_together_keep_their_order(self):
        played = Played(put(0, "ab"), track(1), author(2), put(1, "x"), author(3), put(2, "y"), author(2), move(0, 3, 4))
        self.assertEqual(played.last, [3])
        self.assertEqual(played.marks(), "a-3 y+2-3 b a+3 x+1 y+2+3 |")

    def test_the_copy_is_as_the_piece_was(self):
        played = Played(put(0, "ab"), paint(0, 1, 0, 5), tag(0, 1, 7, 1), tag(0, 1, 3, 1), track(1), author(2),
                        paint(0, 1, 1, 6), move(0, 1, 2))
        self.assertEqual(played.row(), [
            (97, (5, 0, 0, 0), [], [2], [(1, 1, 6)], [3, 7]),
            (98, (0, 0, 0, 0), [], [], [], []),
            (97, (5, 0, 0, 0), [2], [], [(1, 1, 6)], [3, 7]),
            (10, (0, 0, 0, 0), [], [], [], []),
        ])

    def test_copy_and_piece_go_separate_ways(self):
        played = Played(put(0, "ab"), track(1), author(2), paint(0, 1, 1, 6), move(0, 1, 2), paint(1, 2, 1, 8),
                        tag(1, 2, 9, 1), author(3), paint(1, 2, 2, 4))
        self.assertEqual(played.row()[0], (97, (0, 0, 0, 0), [], [2], [(1, 1, 6)], []))
        self.assertEqual(played.row()[2], (97, (0, 8, 0, 0), [2], [], [(3, 2, 4)], [9]))

    def test_the_copy_is_shown_with_the_look_as_shown(self):
        played = Played(put(0, "ab"), track(1), author(2), paint(0, 1, 1, 6), move(0, 1, 2), put(2, "x"))
        self.assertEqual(played.own_looks(), [(0, 0, 0, 0)] * 3 + [(0, 6, 0, 0), (0, 0, 0, 0)])

    def test_a_piece_moved_before_by_another_author_is_copied(self):
        played = Played(put(0, "abc"), track(1), author(1), move(0, 1, 2), author(2), move(1, 2, 3))
        self.assertEqual(played.last, [2])
        self.assertEqual(played.marks(), "a-1 b a+1-2 c a+1+2 |")

    def test_a_piece_moved_before_by_the_same_author_comes_itself(self):
        played = Played(put(0, "abc"), track(1), author(1), move(0, 1, 2), move(1, 2, 3))
        self.assertEqual(played.last, [0])
        self.assertEqual(played.marks(), "a-1 b c a+1 |")

    def test_the_last_insertion_tells_whose_it_is(self):
        base = [put(0, "abc"), track(1), author(1), move(0, 1, 2), author(2), move(1, 2, 3)]
        self.assertEqual(Played(*base, author(1), move(2, 3, 0)).marks(), "a-1 a+1+2+3 b a+1-2 c a+1+2-3 |")
        self.assertEqual(Played(*base, author(2), move(2, 3, 0)).marks(), "a-1 a+1+2 b a+1-2 c |")
        self.assertEqual(Played(*base, author(1), cut(2, 3)).marks(), "a-1 b a+1-2 c a+1+2-3 |")
        self.assertEqual(Played(*base, author(2), cut(2, 3)).marks(), "a-1 b a+1-2 c |")

    def test_different_insertions_in_one_stretch(self):
        played = Played(put(0, "ab"), track(1), author(2), put(1, "x"), author(3), put(0, "y"), author(4), move(0, 3, 4))
        self.assertEqual(played.marks(), "y+2-3 a-3 x+1-3 b y+2+3 a+3 x+1+3 |")

    def test_not_tracked_a_marked_piece_comes_as_it_is(self):
        played = Played(put(0, "ab"), track(1), author(2), put(0, "x"), paint(1, 2, 0, 5), track(0), author(3), move(0, 2, 3))
        self.assertEqual(played.last, [0])
        self.assertEqual(played.marks(), "b x+1 a |")
        self.assertEqual(played.pending()[2], [(2, 0, 5)])

"""Promise 5: put, and what promise 4 says of it."""

import unittest

from tests.support import HUGE, PLAIN, Played, assert_refused
from tests.support import author, cut, paint, put, tag, track


class PlaceTest(unittest.TestCase):
    def test_into_a_new_document(self):
        played = Played(put(0, "ab"))
        self.assertEqual(played.last, [0])
        self.assertEqual(played.row(), [
            (97, PLAIN, [], [], [], []), (98, PLAIN, [], [], [], []), (10, PLAIN, [], [], [], []),
        ])

    def test_before_the_piece_at_p(self):
        self.assertEqual(Played(put(0, "abc"), put(0, "xy")).marks(), "x y a b c |")
        self.assertEqual(Played(put(0, "abc"), put(1, "xy")).marks(), "a x y b c |")
        self.assertEqual(Played(put(0, "abc"), put(3, "xy")).marks(), "a b c x y |")

    def test_behind_what_is_not_shown(self):
        base = [put(0, "abcd"), track(1), author(2), cut(1, 3)]
        self.assertEqual(Played(*base, put(1, "xy")).marks(), "a b-1 c-1 x+2 y+2 d |")
        self.assertEqual(Played(*base, track(0), put(1, "xy")).marks(), "a b-1 c-1 x y d |")
        self.assertEqual(Played(*base, put(0, "x")).marks(), "x+2 a b-1 c-1 d |")
        self.assertEqual(Played(*base, put(2, "x")).marks(), "a b-1 c-1 d x+2 |")

    def test_behind_what_is_not_shown_at_the_row_s_ends(self):
        base = [put(0, "ab"), track(1), author(2), cut(0, 2)]
        self.assertEqual(Played(*base, put(0, "x"), put(0, "y")).marks(), "a-1 b-1 y+3 x+2 |")

    def test_p_outside(self):
        for p in (-1, 4, HUGE, -HUGE):
            assert_refused(self, [put(0, "abc")], put(p, "x"), -1)
        assert_refused(self, [], put(1, "x"), -1)

    def test_p_counts_shown_pieces_alone(self):
        assert_refused(self, [put(0, "abc"), track(1), cut(0, 2)], put(2, "x"), -1)


class SignsTest(unittest.TestCase):
    def test_the_edges_of_a_sign(self):
        for sign in (10, 32, 126):
            self.assertEqual(Played(put(0, [sign])).row()[0][0], sign)

    def test_no_sign(self):
        for sign in (31, 127, 9, 11, 0, -10, HUGE, -HUGE):
            assert_refused(self, [], put(0, [sign]), -2)
            assert_refused(self, [put(0, "a"), track(1)], put(0, [97, sign]), -2)
            assert_refused(self, [put(0, "a"), track(1)], put(0, [sign, 97]), -2)

    def test_empty(self):
        assert_refused(self, [], put(0, []), -2)
        assert_refused(self, [track(1)], put(0, []), -2)

    def test_the_place_is_looked_at_first(self):
        assert_refused(self, [], put(1, []), -1)
        assert_refused(self, [], put(-1, [31]), -1)

    def test_2000_signs(self):
        signs = [32 + number % 95 for number in range(1999)] + [10]
        played = Played(track(1), put(0, signs))
        self.assertEqual(played.last, [1])
        self.assertEqual([piece[0] for piece in played.row()], signs + [10])


class MarkTest(unittest.TestCase):
    def test_tracked(self):
        played = Played(track(1), author(3), put(0, "ab"))
        self.assertEqual(played.last, [1])
        self.assertEqual(played.marks(), "a+1 b+1 |")
        self.assertEqual(played.changes(), [(3, 0, 1)])

    def test_each_put_is_a_change(self):
        played = Played(track(1), put(0, "ab"), put(1, "c"))
        self.assertEqual(played.last, [2])
        self.assertEqual(played.marks(), "a+1 c+2 b+1 |")

    def test_not_tracked(self):
        played = Played(track(1), put(0, "a"), track(0), put(1, "b"))
        self.assertEqual(played.last, [0])
        self.assertEqual(played.marks(), "a+1 b |")
        self.assertEqual(len(played.changes()), 1)

    def test_a_refused_put_takes_no_number(self):
        self.assertEqual(Played(track(1), put(0, []), put(0, "a")).last, [1])


class LookTest(unittest.TestCase):
    def test_letters_take_the_look_of_the_piece_before(self):
        base = [put(0, "ab"), paint(0, 1, 0, 7), paint(0, 1, 3, 8), paint(1, 2, 1, 9)]
        self.assertEqual(Played(*base, put(1, "xy")).own_looks()[1:3], [(7, 0, 0, 8)] * 2)
        self.assertEqual(Played(*base, put(2, "x")).own_looks()[2], (0, 9, 0, 0))

    def test_letters_at_0_are_plain(self):
        self.assertEqual(Played(put(0, "a"), paint(0, 2, 0, 7), put(0, "x")).own_looks()[0], PLAIN)

    def test_letters_behind_an_end_are_plain(self):
        played = Played(put(0, "a\nb"), paint(0, 4, 0, 7), put(2, "x"))
        self.assertEqual(played.own_looks()[2], PLAIN)

    def test_letters_behind_an_end_of_the_same_put_take_the_look_too(self):
        played = Played(put(0, "a"), paint(0, 1, 0, 7), paint(1, 2, 0, 5), put(1, "x\ny"))
        self.assertEqual(played.own_looks(), [(7, 0, 0, 0)] * 2 + [(5, 0, 0, 0), (7, 0, 0, 0), (5, 0, 0, 0)])

    def test_it_is_the_look_as_shown_that_is_taken(self):
        played = Played(put(0, "ab"), paint(0, 3, 0, 1), track(1), paint(0, 3, 0, 2), paint(0, 3, 0, 3), put(1, "x\n"))
        self.assertEqual(played.own_looks(), [(1, 0, 0, 0), (3, 0, 0, 0), (3, 0, 0, 0), (1, 0, 0, 0), (1, 0, 0, 0)])
        self.assertEqual(played.pending()[1], [])

    def test_the_piece_before_is_the_one_shown_before(self):
        played = Played(put(0, "abc"), paint(0, 1, 0, 1), paint(1, 2, 0, 2), track(1), cut(1, 2), put(1, "x"))
        self.assertEqual(played.marks(), "a b-1 x+2 c |")
        self.assertEqual(played.own_looks()[2], (1, 0, 0, 0))

    def test_a_cut_end_before_does_not_count(self):
        played = Played(put(0, "a\nb"), paint(0, 2, 0, 1), track(1), cut(1, 2), put(1, "x"))
        self.assertEqual(played.own_looks()[2], (1, 0, 0, 0))

    def test_ends_take_the_look_of_the_next_end(self):
        base = [put(0, "a\nb\nc"), paint(1, 2, 2, 3), paint(3, 4, 2, 4), paint(5, 6, 2, 5)]
        for p, value in ((0, 3), (1, 3), (2, 4), (3, 4), (4, 5), (5, 5)):
            self.assertEqual(Played(*base, put(p, "\n")).own_looks()[p], (0, 0, value, 0), p)

    def test_ends_pass_over_an_end_that_is_not_shown(self):
        played = Played(put(0, "a\nb"), paint(1, 2, 0, 3), paint(3, 4, 0, 4), track(1), cut(1, 2), put(0, "\n"))
        self.assertEqual(played.own_looks()[0], (4, 0, 0, 0))

    def test_several_ends_take_the_same_look(self):
        played = Played(paint(0, 1, 1, 6), put(0, "\n\nx"))
        self.assertEqual(played.own_looks(), [(0, 6, 0, 0), (0, 6, 0, 0), PLAIN, (0, 6, 0, 0)])


class TagsTest(unittest.TestCase):
    def test_the_tags_that_both_neighbours_have(self):
        played = Played(put(0, "ab"), tag(0, 2, 9, 1), tag(0, 2, 3, 1), tag(0, 1, 5, 1), tag(1, 2, 6, 1), put(1, "x\n"))
        self.assertEqual(played.tags(), [[3, 5, 9], [3, 9], [3, 9], [3, 6, 9], []])

    def test_none_at_0(self):
        self.assertEqual(Played(put(0, "a"), tag(0, 2, 4, 1), put(0, "x")).tags()[0], [])

    def test_before_the_last_end(self):
        self.assertEqual(Played(put(0, "a"), tag(0, 2, 4, 1), put(1, "x")).tags(), [[4], [4], [4]])
        self.assertEqual(Played(put(0, "a"), tag(0, 1, 4, 1), put(1, "x")).tags(), [[4], [], []])

    def test_pieces_that_are_not_shown_do_not_count(self):
        played = Played(put(0, "abc"), tag(0, 1, 4, 1), tag(2, 3, 4, 1), track(1), cut(1, 2), put(1, "x"))
        self.assertEqual(played.marks(), "a b-1 x+2 c |")
        self.assertEqual(played.tags(), [[4], [], [4], [4], []])

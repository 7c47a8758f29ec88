"""Promises 14 to 17: size, where, from, paragraph."""

import unittest

from tests.support import HUGE, Played, accept, assert_refused, author, cut, from_of, move, paint, paragraph, put, size
from tests.support import track, where

# The row is a-1 b c-2 X+3 Y+3-4 d |: the places are b 0, X 1, d 2, the last end 3.
BASE = [put(0, "abcd"), track(1), cut(0, 1), cut(1, 2), author(2), put(1, "XY"), author(3), cut(2, 3)]


class BaseTest(unittest.TestCase):
    def test_the_base(self):
        self.assertEqual(Played(*BASE).marks(), "a-1 b c-2 X+3 Y+3-4 d |")


class SizeTest(unittest.TestCase):
    def test_a_new_document(self):
        self.assertEqual(Played(size()).last, [1, 1, 1, 0])

    def test_the_base(self):
        self.assertEqual(Played(*BASE).ask(size()), [4, 7, 5, 4])

    def test_changes_that_no_piece_bears_count(self):
        self.assertEqual(Played(track(1), put(0, "ab"), cut(0, 2), size()).last, [1, 1, 1, 1])
        self.assertEqual(Played(*BASE, accept(), size()).last, [4, 4, 4, 4])

    def test_pending_looks_change_no_count(self):
        self.assertEqual(Played(put(0, "ab"), track(1), paint(0, 3, 0, 1), size()).last, [3, 3, 3, 1])

    def test_a_move(self):
        self.assertEqual(Played(put(0, "abc"), track(1), move(0, 2, 3), size()).last, [4, 6, 4, 1])
        self.assertEqual(Played(put(0, "abc"), move(0, 2, 3), size()).last, [4, 4, 4, 0])


class WhereTest(unittest.TestCase):
    def test_a_new_document(self):
        self.assertEqual(Played(where(0)).last, [0, 0])

    def test_each_place(self):
        played = Played(*BASE)
        self.assertEqual([played.ask(where(p)) for p in range(4)], [[1, 1], [3, 3], [5, 3], [6, 4]])

    def test_the_piece_itself_does_not_count(self):
        played = Played(put(0, "ab"), track(1), put(1, "x"))
        self.assertEqual([played.ask(where(p)) for p in range(4)], [[0, 0], [1, 1], [2, 1], [3, 2]])

    def test_refused(self):
        for p in (-1, 4, 5, 6, HUGE, -HUGE):
            assert_refused(self, BASE, where(p), -1)
        for p in (-1, 1, HUGE, -HUGE):
            assert_refused(self, [], where(p), -1)


class FromTest(unittest.TestCase):
    def test_a_new_document(self):
        self.assertEqual(Played(from_of(0, 0)).last, [0])
        self.assertEqual(Played(from_of(2, 0)).last, [0])

    def test_among_all_pieces(self):
        played = Played(*BASE)
        self.assertEqual([played.ask(from_of(0, i)) for i in range(7)], [[0], [0], [1], [1], [2], [2], [3]])

    def test_among_pieces_without_insertions(self):
        played = Played(*BASE)
        self.assertEqual([played.ask(from_of(2, i)) for i in range(5)], [[0], [0], [1], [2], [3]])

    def test_i_outside(self):
        for w, count in ((0, 7), (2, 5)):
            for i in (-1, count, count + 1, HUGE, -HUGE):
                assert_refused(self, BASE, from_of(w, i), -1)
            for i in (-1, 1, HUGE, -HUGE):
                assert_refused(self, [], from_of(w, i), -1)

    def test_w_outside(self):
        for w in (1, -1, 3, HUGE, -HUGE):
            assert_refused(self, BASE, from_of(w, 0), -2)

    def test_w_is_looked_at_first(self):
        for w in (1, -1, 3, HUGE, -HUGE):
            for i in (-1, 7, HUGE, -HUGE):
                assert_refused(self, BASE, from_of(w, i), -2)

    def test_back_from_where(self):
        played = Played(*BASE)
        for p in range(4):
            before, original = played.ask(where(p))
            self.assertEqual(played.ask(from_of(0, before)), [p])

    def test_a_long_row_of_shown_and_hidden_pieces(self):
        played = Played(put(0, [97] * 2000), track(1), cut(500, 1000), put(500, [98] * 300))
        for i, shown in ((0, 0), (499, 499), (500, 500), (999, 500), (1000, 500), (1001, 501), (1299, 799), (1300, 800),
                         (2300, 1800)):
            self.assertEqual(played.ask(from_of(0, i)), [shown], i)
        for i, shown in ((499, 499), (500, 500), (999, 500), (1000, 800), (1001, 801), (2000, 1800)):
            self.assertEqual(played.ask(from_of(2, i)), [shown], i)
        self.assertEqual(played.ask(from_of(0, 2301)), [-1])
        self.assertEqual(played.ask(from_of(2, 2001)), [-1])


class ParagraphTest(unittest.TestCase):
    def test_a_new_document(self):
        self.assertEqual(Played(paragraph(0)).last, [0, 1])

    def test_each(self):
        played = Played(put(0, "ab\n\ncd\ne"))
        self.assertEqual([played.ask(paragraph(i)) for i in range(4)], [[0, 3], [3, 4], [4, 7], [7, 9]])

    def test_an_empty_one_at_the_end(self):
        played = Played(put(0, "a\n"))
        self.assertEqual([played.ask(paragraph(i)) for i in range(3)], [[0, 2], [2, 3], [-1]])

    def test_an_end_that_is_not_shown_ends_none(self):
        played = Played(put(0, "a\nb\nc"), track(1), cut(1, 2))
        self.assertEqual([played.ask(paragraph(i)) for i in range(3)], [[0, 3], [3, 5], [-1]])

    def test_an_end_with_an_insertion_ends_one(self):
        played = Played(put(0, "ab"), track(1), put(1, "\n"))
        self.assertEqual([played.ask(paragraph(i)) for i in range(3)], [[0, 2], [2, 4], [-1]])

    def test_a_moved_end(self):
        played = Played(put(0, "ab\nc"), track(1), move(2, 3, 1))
        self.assertEqual([played.ask(paragraph(i)) for i in range(3)], [[0, 2], [2, 5], [-1]])

    def test_refused(self):
        base = [put(0, "ab\ncd")]
        self.assertEqual(Played(*base, paragraph(1)).last, [3, 6])
        for i in (-1, 2, HUGE, -HUGE):
            assert_refused(self, base, paragraph(i), -1)
        for i in (-1, 1, HUGE, -HUGE):
            assert_refused(self, [], paragraph(i), -1)

"""Promise 18: stretches."""

import unittest

from tests.support import Played, accept, author, cut, move, paint, put, stretches, tag, track


class StretchesTest(unittest.TestCase):
    def check(self, calls, answer):
        played = Played(*calls)
        before = played.whole()
        self.assertEqual(played.then(stretches()).last, answer)
        self.assertEqual(played.whole(), before)

    def test_none(self):
        self.check([], [0])
        self.check([put(0, "abc"), tag(0, 2, 1, 1)], [0])
        self.check([track(1), put(0, "abc"), accept()], [0])

    def test_one_insertion(self):
        self.check([put(0, "ab"), track(1), put(1, "xyz")], [1, 1, 3, 1, 1, 0, 0])

    def test_one_deletion(self):
        self.check([put(0, "abc"), track(1), cut(0, 2)], [1, 0, 2, 0, 1, 1, 0])

    def test_the_last_end_can_belong_to_one(self):
        self.check([put(0, "ab"), track(1), paint(1, 3, 2, 9)], [1, 1, 2, 0, 0, 1, 1, 2, 9])

    def test_neighbours_of_different_changes_are_apart(self):
        self.check([track(1), put(0, "ab"), put(2, "c")], [2, 0, 2, 1, 1, 0, 0, 2, 1, 1, 2, 0, 0])

    def test_the_same_marks_apart_in_the_row_are_two(self):
        self.check([put(0, "abc"), track(1), paint(0, 1, 1, 5), paint(0, 2, 1, 5), track(0), put(1, "x")],
                   [2, 0, 1, 0, 0, 1, 1, 1, 5, 2, 1, 0, 0, 1, 2, 1, 5])
        self.check([track(1), put(0, "ab"), track(0), put(1, "x")],
                   [2, 0, 1, 1, 1, 0, 0, 2, 1, 1, 1, 0, 0])

    def test_insertions_and_deletions_of_the_same_numbers_differ(self):
        self.check([put(0, "ab"), track(1), move(0, 1, 2)], [2, 0, 1, 0, 1, 1, 0, 2, 1, 1, 1, 0, 0])
        self.check([put(0, "ab"), track(1), move(1, 2, 0)], [2, 0, 1, 1, 1, 0, 0, 2, 1, 0, 1, 1, 0])

    def test_a_move_next_to_what_it_left(self):
        # b is cut away for good, so that the copy of a stands right behind a.
        self.check([put(0, "ab"), track(1), move(0, 1, 2), track(0), cut(0, 1)],
                   [2, 0, 1, 0, 1, 1, 0, 1, 1, 1, 1, 0, 0])

    def test_pending_looks_differ_by_their_order(self):
        self.check([put(0, "ab"), track(1), paint(0, 1, 0, 1), paint(0, 2, 1, 2), paint(1, 2, 0, 1)],
                   [2, 0, 1, 0, 0, 2, 1, 0, 1, 2, 1, 2, 1, 1, 0, 0, 2, 2, 1, 2, 3, 0, 1])

    def test_look_and_tags_and_sign_do_not_part(self):
        self.check([put(0, "a\nb"), paint(0, 1, 0, 4), tag(1, 2, 4, 1), track(1), cut(0, 3)], [1, 0, 3, 0, 1, 1, 0])

    def test_all_three_lists(self):
        self.check([track(1), author(1), put(0, "a"), author(2), move(0, 1, 0), put(1, "b"), move(0, 1, 2), author(3),
                    paint(1, 2, 3, 7), cut(1, 2)],
                   [3, 0, 1, 1, 1, 1, 3, 0, 1, 1, 1, 2, 0, 0, 2, 1, 2, 1, 3, 1, 5, 1, 4, 3, 7])

    def test_pieces_not_shown_count_as_pieces_before(self):
        self.check([put(0, "abcd"), track(1), cut(1, 2), cut(2, 3)],
                   [2, 1, 1, 0, 1, 1, 0, 3, 1, 0, 1, 2, 0])

    def test_two_cuts_side_by_side(self):
        self.check([put(0, "abcd"), track(1), cut(1, 2), cut(1, 2)],
                   [2, 1, 1, 0, 1, 1, 0, 2, 1, 0, 1, 2, 0])

"""Promise 18: stretches."""

import unittest

from tests.support import PLAIN, Played, accept, author, cut, move, paint, put, reject, stretches, tag, told_stretches, track
from trackedtext.piece import Piece
from trackedtext.row import fill_with


class StretchesTest(unittest.TestCase):
    def check(self, calls, answer):
        played = Played(*calls)
        before = played.whole()
        self.assertEqual(played.then(stretches()).last, answer)
        self.assertEqual(played.whole(), before)

    def test_none(self):
        self.check([], [0])
        self.check([put(0, "abc"), tag(0, 2, 1, 1)], [0])
        self.check([track(1), put(0, "abc"), accept()], [0])
        self.check([put(0, "abc"), track(1), put(0, "x"), cut(2, 3), paint(0, 4, 0, 1), reject()], [0])

    def test_one_insertion(self):
        self.check([put(0, "ab"), track(1), put(1, "xyz")], [1, 1, 3, 1, 1, 0, 0])

    def test_one_deletion(self):
        self.check([put(0, "abc"), track(1), cut(0, 2)], [1, 0, 2, 0, 1, 1, 0])

    def test_the_last_end_can_belong_to_one(self):
        self.check([put(0, "ab"), track(1), paint(1, 3, 2, 9)], [1, 1, 2, 0, 0, 1, 1, 2, 9])

    def test_neighbours_of_different_changes_are_apart(self):
        self.check([track(1), put(0, "ab"), put(2, "c")], [2, 0, 2, 1, 1, 0, 0, 2, 1, 1, 2, 0, 0])

    def test_the_same_marks_apart_in_the_row_are_two(self):
        self.check([put(0, "abc"), track(1), paint(0, 1, 1, 5), paint(0, 2, 1, 5), track(0), put(1, "x")],
                   [2, 0, 1, 0, 0, 1, 1, 1, 5, 2, 1, 0, 0, 1, 2, 1, 5])
        self.check([track(1), put(0, "ab"), track(0), put(1, "x")],
                   [2, 0, 1, 1, 1, 0, 0, 2, 1, 1, 1, 0, 0])

    def test_insertions_and_deletions_of_the_same_numbers_differ(self):
        self.check([put(0, "ab"), track(1), move(0, 1, 2)], [2, 0, 1, 0, 1, 1, 0, 2, 1, 1, 1, 0, 0])
        self.check([put(0, "ab"), track(1), move(1, 2, 0)], [2, 0, 1, 1, 1, 0, 0, 2, 1, 0, 1, 1, 0])

    def test_a_move_next_to_what_it_left(self):
        # b is cut away for good, so that the copy of a stands right behind a.
        self.check([put(0, "ab"), track(1), move(0, 1, 2), track(0), cut(0, 1)],
                   [2, 0, 1, 0, 1, 1, 0, 1, 1, 1, 1, 0, 0])

    def test_pending_looks_differ_by_their_order(self):
        self.check([put(0, "ab"), track(1), paint(0, 1, 0, 1), paint(0, 2, 1, 2), paint(1, 2, 0, 1)],
                   [2, 0, 1, 0, 0, 2, 1, 0, 1, 2, 1, 2, 1, 1, 0, 0, 2, 2, 1, 2, 3, 0, 1])

    def test_look_and_tags_and_sign_do_not_part(self):
        self.check([put(0, "a\nb"), paint(0, 1, 0, 4), tag(1, 2, 4, 1), track(1), cut(0, 3)], [1, 0, 3, 0, 1, 1, 0])

    def test_all_three_lists(self):
        self.check([track(1), author(1), put(0, "a"), author(2), move(0, 1, 0), put(1, "b"), move(0, 1, 2), author(3),
                    paint(1, 2, 3, 7), cut(1, 2)],
                   [3, 0, 1, 1, 1, 1, 3, 0, 1, 1, 1, 2, 0, 0, 2, 1, 2, 1, 3, 1, 5, 1, 4, 3, 7])

    def test_pieces_not_shown_count_as_pieces_before(self):
        self.check([put(0, "abcd"), track(1), cut(1, 2), cut(2, 3)],
                   [2, 1, 1, 0, 1, 1, 0, 3, 1, 0, 1, 2, 0])

    def test_two_cuts_side_by_side(self):
        self.check([put(0, "abcd"), track(1), cut(1, 2), cut(1, 2)],
                   [2, 1, 1, 0, 1, 1, 0, 2, 1, 0, 1, 2, 0])

    def test_pieces_cut_at_once_are_one_though_an_own_piece_left_from_between(self):
        self.check([put(0, "ab"), track(1), author(2), put(1, "x"), cut(0, 3)], [1, 0, 2, 0, 1, 2, 0])

    def test_pieces_cut_at_once_are_apart_where_another_stands_between(self):
        self.check([put(0, "abc"), track(1), cut(1, 2), cut(0, 2)],
                   [3, 0, 1, 0, 1, 2, 0, 1, 1, 0, 1, 1, 0, 2, 1, 0, 1, 2, 0])

    def test_at_the_row_s_beginning_and_at_its_end(self):
        self.check([put(0, "abc"), track(1), put(0, "xy"), paint(5, 6, 0, 7)],
                   [2, 0, 2, 1, 1, 0, 0, 5, 1, 0, 0, 1, 2, 0, 7])
        self.check([put(0, "ab"), track(1), cut(0, 2), paint(0, 1, 3, 99)],
                   [2, 0, 2, 0, 1, 1, 0, 2, 1, 0, 0, 1, 2, 3, 99])

    def test_the_whole_row(self):
        self.check([put(0, "abc"), track(1), paint(0, 4, 1, 5)], [1, 0, 4, 0, 0, 1, 1, 1, 5])

    def test_behind_accept_and_behind_reject(self):
        base = [put(0, "abc"), track(1), put(0, "x"), cut(2, 3)]
        self.check([*base, accept(), cut(1, 2)], [1, 1, 1, 0, 1, 3, 0])
        self.check([*base, reject(), cut(1, 2)], [1, 1, 1, 0, 1, 3, 0])


def marked_piece(insertions, deletions, pending):
    piece = Piece(97, PLAIN, 0)
    piece.insertions = insertions
    piece.deletions = deletions
    piece.pending = pending
    return piece


def hidden_row(row, pieces):
    """Lays these pieces before the last end, each in a list of its own where it is not shown."""
    end = row.shown[-1]
    fill_with(row, [piece for piece in pieces if not piece.deletions] + [end])
    row.hidden[0] = [[piece] for piece in pieces if piece.deletions]


class NeighboursTest(unittest.TestCase):
    """Two neighbours laid into the row by hand, also such as no calls can make."""

    def check(self, one, other, apart):
        played = Played()
        hidden_row(played.document.row, [marked_piece(*one), marked_piece(*other)])
        told = told_stretches(played.ask(stretches()))
        self.assertEqual([(begin, length) for begin, length, *marks in told], [(0, 1), (1, 1)] if apart else [(0, 2)])
        self.assertEqual(told[0][2:], tuple(list(marks) for marks in one))
        self.assertEqual(told[-1][2:], tuple(list(marks) for marks in other))

    def test_the_same(self):
        for marks in (((1,), (), ()), ((), (1,), ()), ((), (), ((1, 2, 3),)), ((1, 2), (3,), ((4, 0, 1), (5, 1, 1)))):
            self.check(marks, marks, False)

    def test_only_the_insertions_differ(self):
        self.check(((1,), (), ((4, 0, 1),)), ((2,), (), ((4, 0, 1),)), True)
        self.check(((1, 2), (3,), ()), ((1,), (3,), ()), True)
        self.check(((), (3,), ()), ((1,), (3,), ()), True)
        self.check(((1, 2), (3,), ()), ((2, 1), (3,), ()), True)

    def test_only_the_deletions_differ(self):
        self.check(((1,), (3,), ((4, 0, 1),)), ((1,), (2,), ((4, 0, 1),)), True)

    def test_only_the_pending_looks_differ(self):
        for one, other in ((((4, 0, 1),), ((4, 0, 2),)), (((4, 0, 1),), ((4, 1, 1),)), (((4, 0, 1),), ((5, 0, 1),)),
                           (((4, 0, 1), (5, 1, 1)), ((5, 1, 1), (4, 0, 1))), (((4, 0, 1),), ((4, 0, 1), (5, 0, 1)))):
            for deletions in ((), (6,)):
                self.check(((1,), deletions, one), ((1,), deletions, other), True)

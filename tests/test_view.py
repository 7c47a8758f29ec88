"""Promise 12: view."""

import unittest

from tests.support import HUGE, PLAIN, Played, assert_refused, author, cut, move, paint, put, tag, track, view
from tests.support import told_pieces, told_text


class ViewTest(unittest.TestCase):
    def test_a_new_document(self):
        self.assertEqual(Played(view(0)).last, [1, 10, 0, 0, 0, 0, 0, 0, 0, 0])
        self.assertEqual(Played(view(1)).last, [1, 10, 0, 0, 0, 0, 0])
        self.assertEqual(Played(view(2)).last, [1, 10, 0, 0, 0, 0, 0])

    def test_all_number_by_number(self):
        played = Played(put(0, "a"), paint(0, 1, 1, 8), tag(0, 1, 999, 1), tag(0, 1, 1, 1), track(1), author(2), put(0, "b"),
                        author(3), paint(0, 1, 3, 4), paint(0, 2, 0, 5), cut(0, 1))
        self.assertEqual(played.ask(view(0)), [
            3,
            98, 0, 0, 0, 0, 1, 1, 1, 4, 2, 2, 3, 4, 3, 0, 5, 0,
            97, 0, 8, 0, 0, 0, 0, 1, 3, 0, 5, 2, 1, 999,
            10, 0, 0, 0, 0, 0, 0, 0, 0,
        ])
        self.assertEqual(played.ask(view(1)), [2, 97, 5, 8, 0, 0, 2, 1, 999, 10, 0, 0, 0, 0, 0])
        self.assertEqual(played.ask(view(2)), [2, 97, 0, 8, 0, 0, 2, 1, 999, 10, 0, 0, 0, 0, 0])

    def test_several_insertions_in_their_order(self):
        played = Played(put(0, "ab"), track(1), move(0, 1, 2), author(2), move(1, 2, 0), author(1), move(0, 1, 2))
        self.assertEqual(told_pieces(played.ask(view(0)))[4], (97, PLAIN, [1, 2, 3], [], [], []))

    def test_the_accepted_text_has_the_look_as_shown(self):
        played = Played(put(0, "ab"), paint(0, 1, 2, 3), track(1), paint(0, 1, 0, 1), paint(0, 1, 1, 2), paint(0, 1, 0, 4))
        self.assertEqual(told_text(played.ask(view(1))), [(97, (4, 2, 3, 0), []), (98, PLAIN, []), (10, PLAIN, [])])

    def test_the_rejected_text_has_the_own_look(self):
        played = Played(put(0, "ab"), paint(0, 1, 2, 3), track(1), paint(0, 3, 0, 1), paint(0, 1, 2, 2))
        self.assertEqual(told_text(played.ask(view(2))), [(97, (0, 0, 3, 0), []), (98, PLAIN, []), (10, PLAIN, [])])

    def test_a_piece_that_is_not_shown_is_in_the_rejected_text_alone(self):
        played = Played(put(0, "abc"), track(1), cut(1, 2))
        self.assertEqual([piece[0] for piece in told_text(played.ask(view(1)))], [97, 99, 10])
        self.assertEqual([piece[0] for piece in told_text(played.ask(view(2)))], [97, 98, 99, 10])

    def test_a_piece_with_insertions_is_in_the_accepted_text_alone(self):
        played = Played(put(0, "ac"), track(1), put(1, "b"))
        self.assertEqual([piece[0] for piece in told_text(played.ask(view(1)))], [97, 98, 99, 10])
        self.assertEqual([piece[0] for piece in told_text(played.ask(view(2)))], [97, 99, 10])

    def test_a_piece_with_both_is_in_neither(self):
        played = Played(track(1), put(0, "ab"), author(2), cut(0, 1))
        self.assertEqual([piece[0] for piece in told_text(played.ask(view(1)))], [98, 10])
        self.assertEqual([piece[0] for piece in told_text(played.ask(view(2)))], [10])
        self.assertEqual([piece[0] for piece in told_pieces(played.ask(view(0)))], [97, 98, 10])

    def test_tags_rise(self):
        played = Played(put(0, "ab"), tag(0, 2, 999, 1), tag(0, 1, 500, 1), tag(0, 1, 1, 1), tag(0, 1, 64, 1), tag(1, 2, 63, 1))
        tags = [[1, 64, 500, 999], [63, 999], []]
        self.assertEqual([piece[5] for piece in told_pieces(played.ask(view(0)))], tags)
        for w in (1, 2):
            self.assertEqual([piece[2] for piece in told_text(played.ask(view(w)))], tags)

    def test_hundreds_of_tags_on_a_piece(self):
        played = Played(put(0, "ab"), *[tag(0, 1, 999 - 3 * number, 1) for number in range(333)])
        self.assertEqual(told_text(played.ask(view(1)))[0][2], list(range(3, 1000, 3)))

    def test_tags_of_pieces_that_are_not_shown(self):
        played = Played(put(0, "abc"), track(1), cut(1, 2), tag(0, 2, 7, 1))
        self.assertEqual([piece[2] for piece in told_text(played.ask(view(1)))], [[7], [7], []])
        self.assertEqual([piece[2] for piece in told_text(played.ask(view(2)))], [[7], [7], [7], []])

    def test_refused(self):
        for w in (-1, 3, HUGE, -HUGE):
            assert_refused(self, [], view(w), -2)
            assert_refused(self, [put(0, "ab"), track(1), cut(0, 1)], view(w), -2)

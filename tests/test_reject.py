"""Promise 11: reject."""

import unittest

from tests.support import PLAIN, Played, accept, author, change, clock, cut, move, paint, paragraph, put, reject, size
from tests.support import stretches, tag, track, view, where


class RejectTest(unittest.TestCase):
    def test_a_new_document(self):
        played = Played(reject())
        self.assertEqual(played.last, [0])
        self.assertEqual(played.row(), [(10, PLAIN, [], [], [], [])])

    def test_what_was_not_tracked_stays(self):
        played = Played(put(0, "abcd"), tag(0, 1, 3, 1), paint(0, 1, 1, 2), cut(3, 4), move(0, 1, 2))
        row = played.row()
        self.assertEqual(played.then(reject()).last, [0])
        self.assertEqual(played.row(), row)

    def test_put(self):
        played = Played(put(0, "ab"), track(1), put(1, "xy"), reject())
        self.assertEqual(played.last, [2])
        self.assertEqual(played.marks(), "a b |")

    def test_cut(self):
        played = Played(put(0, "abcd"), track(1), cut(1, 3), reject())
        self.assertEqual(played.last, [2])
        self.assertEqual(played.marks(), "a b c d |")

    def test_paint(self):
        played = Played(put(0, "ab"), paint(0, 1, 0, 9), track(1), paint(0, 1, 0, 3), paint(0, 1, 1, 4), paint(0, 3, 2, 5))
        self.assertEqual(played.then(reject()).last, [3])
        self.assertEqual(played.own_looks(), [(9, 0, 0, 0), PLAIN, PLAIN])
        self.assertEqual(played.pending(), [[], [], []])

    def test_behind_it_the_look_as_shown_is_the_own_look(self):
        played = Played(put(0, "ab"), paint(0, 1, 0, 9), track(1), paint(0, 3, 0, 3), reject())
        self.assertEqual(played.ask(view(1)), [3, 97, 9, 0, 0, 0, 0, 98, 0, 0, 0, 0, 0, 10, 0, 0, 0, 0, 0])
        self.assertEqual(played.then(paint(0, 3, 0, 9)).last, [2])
        self.assertEqual(played.pending(), [[], [(2, 0, 9)], [(2, 0, 9)]])
        played = Played(put(0, "ab"), track(1), paint(0, 3, 0, 3), reject(), put(1, "x\n"))
        self.assertEqual(played.own_looks(), [PLAIN] * 5)

    def test_a_cut_piece_comes_back_with_its_own_look(self):
        played = Played(put(0, "ab"), track(1), paint(0, 1, 0, 3), cut(0, 1), reject())
        self.assertEqual(played.last, [1])
        self.assertEqual(played.row()[0], (97, PLAIN, [], [], [], []))
        self.assertEqual(played.ask(view(1))[:7], [3, 97, 0, 0, 0, 0, 0])

    def test_move(self):
        played = Played(put(0, "abc"), tag(0, 1, 8, 1), track(1), move(0, 1, 2), reject())
        self.assertEqual(played.last, [2])
        self.assertEqual(played.marks(), "a b c |")
        self.assertEqual(played.tags(), [[8], [], [], []])

    def test_a_move_of_a_move_by_another_author(self):
        played = Played(put(0, "abc"), track(1), move(0, 1, 2), author(2), move(1, 2, 3), author(3), move(2, 3, 0), reject())
        self.assertEqual(played.last, [4])
        self.assertEqual(played.marks(), "a b c |")

    def test_an_insertion_that_was_cut_goes_too(self):
        played = Played(track(1), author(2), put(0, "ab"), author(3), cut(0, 1), reject())
        self.assertEqual(played.last, [2])
        self.assertEqual(played.marks(), "|")

    def test_several_authors(self):
        played = Played(put(0, "abcd"), track(1), author(2), put(4, "x"), cut(0, 1), author(3), paint(0, 4, 0, 1), cut(1, 3),
                        author(4), move(0, 1, 2), author(2), put(0, "yz"))
        self.assertEqual(played.then(reject()).last, [8])
        self.assertEqual(played.row(), [(sign, PLAIN, [], [], [], []) for sign in (97, 98, 99, 100, 10)])

    def test_what_was_done_to_marked_pieces_with_tracking_off(self):
        played = Played(put(0, "abcd"), track(1), author(2), put(0, "xyz"), cut(4, 5), paint(4, 6, 1, 7), track(0),
                        author(3), cut(0, 1), move(0, 1, 4), paint(2, 4, 1, 8), put(1, "n"))
        self.assertEqual(played.marks(), "z+1 n a b-2 c y+1 d |")
        self.assertEqual(played.then(reject()).last, [4])
        self.assertEqual(played.marks(), "n a b c d |")
        self.assertEqual(played.own_looks(), [PLAIN, PLAIN, PLAIN, (0, 8, 0, 0), PLAIN, PLAIN])
        self.assertEqual(played.pending(), [[]] * 6)

    def test_every_marked_piece_counts_once(self):
        played = Played(put(0, "abcd"), track(1), author(2), put(4, "x"), author(3), paint(0, 5, 0, 1), cut(3, 5), reject())
        self.assertEqual(played.last, [5])
        self.assertEqual(played.marks(), "a b c d |")

    def test_hidden_pieces_count_each(self):
        self.assertEqual(Played(put(0, "abcdef"), track(1), cut(1, 4), cut(1, 2), reject()).last, [4])

    def test_the_last_end(self):
        played = Played(put(0, "a"), track(1), paint(1, 2, 0, 5), reject())
        self.assertEqual(played.last, [1])
        self.assertEqual(played.row()[-1], (10, PLAIN, [], [], [], []))

    def test_tags_stay(self):
        played = Played(put(0, "abc"), track(1), cut(1, 2), tag(0, 2, 5, 1), put(1, "x"), reject())
        self.assertEqual(played.tags(), [[5], [5], [5], []])

    def test_it_does_the_same_tracked_or_not(self):
        base = [put(0, "abc"), track(1), cut(0, 1), put(0, "x")]
        self.assertEqual(Played(*base, reject()).row(), Played(*base, track(0), reject()).row())

    def test_twice_and_with_accept(self):
        base = [put(0, "ab"), track(1), cut(0, 1), put(0, "xy")]
        self.assertEqual(Played(*base, reject(), reject()).last, [0])
        self.assertEqual(Played(*base, reject(), accept()).last, [0])
        self.assertEqual(Played(*base, accept(), reject()).last, [0])
        self.assertEqual(Played(*base, accept(), reject()).marks(), "x y b |")

    def test_changes_stay_entered(self):
        played = Played(track(1), clock(4), author(3), put(0, "ab"), reject(), author(5), clock(6), put(0, "c"))
        self.assertEqual(played.last, [2])
        self.assertEqual(played.ask(change(1)), [3, 4, 1, 0, 0, 0])
        self.assertEqual(played.ask(change(2)), [5, 6, 1, 1, 0, 0])
        self.assertEqual(played.ask(size()), [2, 2, 1, 2])

    def test_author_time_and_tracking_stay(self):
        played = Played(author(5), clock(6), track(1), put(0, "a"), reject(), put(0, "b"))
        self.assertEqual(played.changes()[1], (5, 6, 1))
        self.assertEqual(played.then(clock(5)).last, [-3])

    def test_what_was_accepted_is_not_rejected_any_longer(self):
        played = Played(track(1), put(0, "ab"), accept(), put(1, "x"), reject())
        self.assertEqual(played.last, [1])
        self.assertEqual(played.marks(), "a b |")

    def test_places_behind_it(self):
        played = Played(put(0, "a\nbc"), track(1), cut(1, 3), put(1, "x\n"), reject())
        self.assertEqual(played.marks(), "a | b c |")
        self.assertEqual(played.ask(where(2)), [2, 2])
        self.assertEqual(played.ask(paragraph(1)), [2, 5])
        self.assertEqual(played.ask(stretches()), [0])
        played.then(track(0), put(2, "y"), move(0, 1, 5), cut(1, 2), tag(0, 5, 1, 1))
        self.assertEqual(played.answers, [[0], [0], [0], [0], [5]])
        self.assertEqual(played.marks(), "| b c a |")

    def test_tracked_calls_behind_it(self):
        played = Played(put(0, "abc"), track(1), author(2), put(1, "x"), cut(0, 1), reject(), cut(0, 2), move(0, 1, 0))
        self.assertEqual(played.answers[-2:], [[3], [-3]])
        self.assertEqual(played.marks(), "a-3 b-3 c |")

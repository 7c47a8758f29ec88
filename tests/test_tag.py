"""Promise 9: tag."""

import unittest

from tests.support import HUGE, Played, assert_refused, author, cut, put, tag, track


class TagTest(unittest.TestCase):
    def test_on(self):
        played = Played(put(0, "abc"), tag(1, 3, 5, 1))
        self.assertEqual(played.last, [2])
        self.assertEqual(played.tags(), [[], [5], [5], []])

    def test_on_again_makes_no_difference(self):
        played = Played(put(0, "abc"), tag(1, 3, 5, 1), tag(0, 4, 5, 1))
        self.assertEqual(played.last, [2])
        self.assertEqual(played.tags(), [[5], [5], [5], [5]])
        self.assertEqual(played.then(tag(0, 4, 5, 1)).last, [0])

    def test_off(self):
        played = Played(put(0, "abc"), tag(0, 3, 5, 1), tag(0, 3, 6, 1), tag(1, 4, 5, 0))
        self.assertEqual(played.last, [2])
        self.assertEqual(played.tags(), [[5, 6], [6], [6], []])

    def test_rising_and_none_twice(self):
        played = Played(tag(0, 1, 999, 1), tag(0, 1, 5, 1), tag(0, 1, 1, 1), tag(0, 1, 70, 1), tag(0, 1, 5, 1))
        self.assertEqual(played.answers, [[1], [1], [1], [1], [0]])
        self.assertEqual(played.tags(), [[1, 5, 70, 999]])

    def test_the_last_end_can_be_tagged(self):
        self.assertEqual(Played(put(0, "a"), tag(1, 2, 5, 1)).tags(), [[], [5]])

    def test_it_is_never_tracked(self):
        played = Played(put(0, "ab"), track(1), author(2), tag(0, 3, 5, 1), tag(0, 1, 5, 0))
        self.assertEqual(played.answers[3:], [[3], [1]])
        self.assertEqual(played.marks(), "a b |")
        self.assertEqual(played.changes(), [])


class HiddenTest(unittest.TestCase):
    base = [put(0, "abcdef"), track(1), cut(0, 1), cut(1, 2), cut(2, 3), cut(3, 4)]

    def test_the_base(self):
        self.assertEqual(Played(put(0, "abcdefg"), track(1), cut(0, 1), cut(1, 2), cut(2, 3), cut(3, 4)).marks(),
                         "a-1 b c-2 d e-3 f g-4 |")
        self.assertEqual(Played(*self.base[:-1]).marks(), "a-1 b c-2 d e-3 f |")

    def test_it_reaches_the_pieces_between(self):
        played = Played(*self.base[:-1], tag(0, 2, 7, 1))
        self.assertEqual(played.last, [2])
        self.assertEqual(played.tags(), [[], [7], [7], [7], [], [], []])

    def test_one_piece_alone(self):
        played = Played(*self.base[:-1], tag(1, 2, 7, 1))
        self.assertEqual(played.last, [1])
        self.assertEqual(played.tags(), [[], [], [], [7], [], [], []])

    def test_to_the_last_end(self):
        played = Played(*self.base[:-1], tag(1, 4, 7, 1))
        self.assertEqual(played.last, [3])
        self.assertEqual(played.tags(), [[], [], [], [7], [7], [7], [7]])

    def test_off_reaches_them_too(self):
        played = Played(put(0, "abc"), tag(0, 4, 7, 1), track(1), cut(1, 2), tag(0, 2, 7, 0))
        self.assertEqual(played.last, [2])
        self.assertEqual(played.tags(), [[], [], [], [7]])

    def test_a_difference_to_a_hidden_piece_alone_is_not_counted(self):
        played = Played(put(0, "abc"), tag(0, 1, 7, 1), tag(2, 3, 7, 1), track(1), cut(1, 2), tag(0, 2, 7, 1))
        self.assertEqual(played.last, [0])
        self.assertEqual(played.tags(), [[7], [7], [7], []])


class RefusedTest(unittest.TestCase):
    def test_the_edges_that_are_taken(self):
        for t in (1, 999):
            self.assertEqual(Played(put(0, "a"), tag(0, 2, t, 1)).tags(), [[t], [t]])

    def test_places(self):
        for p, q in ((0, 5), (-1, 2), (1, 1), (2, 1), (4, 4), (4, 5), (0, 0),
                     (0, HUGE), (-HUGE, 2), (-HUGE, HUGE), (HUGE, -HUGE)):
            assert_refused(self, [put(0, "abc")], tag(p, q, 1, 1), -1)

    def test_tags_and_on(self):
        for t, on in ((0, 1), (1000, 1), (-1, 1), (1, 2), (1, -1), (HUGE, 1), (-HUGE, 1), (1, HUGE), (1, -HUGE), (0, 2),
                      (0, 0), (1000, 0)):
            assert_refused(self, [put(0, "abc"), tag(0, 2, 1, 1)], tag(0, 4, t, on), -2)

    def test_the_places_are_looked_at_first(self):
        assert_refused(self, [put(0, "abc")], tag(0, 5, 0, 2), -1)
        assert_refused(self, [put(0, "abc")], tag(2, 2, 1000, 1), -1)

    def test_places_count_shown_pieces_alone(self):
        assert_refused(self, [put(0, "abc"), track(1), cut(0, 1)], tag(0, 4, 1, 1), -1)

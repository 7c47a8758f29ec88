"""Many lists of calls, each held call by call against the plain model."""

import random
import unittest

from tests.model import Model, model_answer
from tests.support import HUGE, Played


def some_place(chance, n):
    return chance.choice([0, n - 1, n, chance.randrange(n + 1), chance.randrange(n + 1), chance.randrange(n + 1)])


def some_stretch(chance, n):
    if chance.random() < 0.1:
        return [some_place(chance, n), some_place(chance, n)]
    p = chance.randrange(n)
    return [p, min(n, p + 1 + chance.choice([0, 1, 2, 3, n]))]


def some_signs(chance):
    if chance.random() < 0.03:
        return chance.choice([[], [31], [97, 127], [9, 10]])
    return [chance.choice([10, 32, 97, 98, 126]) for number in range(chance.randrange(1, 6))]


def some_call(chance, n):
    kind = chance.choice([0, 0, 1, 2, 3, 3, 3, 4, 4, 5, 5, 5, 6, 6, 6, 7, 7, 16] + [8] * (chance.random() < 0.1))
    if chance.random() < 0.01:
        count = (1, 1, 1, 0, 2, 4, 3, 4, 0)[kind] if kind < 9 else 0
        wrong = [chance.choice([-HUGE, HUGE, -1, 1000]) for number in range(count)]
        return [3, chance.choice([-HUGE, HUGE]), 1, 97] if kind == 3 else [kind] + wrong
    if kind == 0:
        return [0, chance.choice([1, 2, 3])]
    if kind == 1:
        return [1, chance.randrange(8)]
    if kind == 2:
        return [2, chance.choice([0, 1, 1, 1, 1])]
    if kind == 3:
        signs = some_signs(chance)
        return [3, chance.randrange(n), len(signs)] + signs
    if kind == 5:
        return [5] + some_stretch(chance, n) + [chance.randrange(4), chance.randrange(3)]
    if kind == 7:
        return [7] + some_stretch(chance, n) + [chance.choice([1, 2, 999]), chance.randrange(2)]
    if kind in (4, 6):
        p, q = some_stretch(chance, n)
        return [kind, p, max(p + 1, min(q, n - 1))] + [some_place(chance, n)] * (kind == 6)
    return [kind]


class ModelTest(unittest.TestCase):
    def play(self, seed, length):
        chance = random.Random(seed)
        played = Played()
        model = Model()
        for number in range(length):
            call = some_call(chance, len(model.shown()))
            expected = model_answer(model, call)
            self.assertEqual(played.then(call).last, expected, (seed, number, call))
            self.assertEqual(played.row(), model.pieces(), (seed, number, call))
        self.assertEqual(played.changes(), model.changes)
        self.assertEqual([tuple(model.look(piece)) for piece in model.shown()], played.looks_shown())

    def test_many_short_lists(self):
        for seed in range(200):
            with self.subTest(seed=seed):
                self.play(seed, 40)

    def test_some_long_lists(self):
        for seed in range(1000, 1004):
            with self.subTest(seed=seed):
                self.play(seed, 400)

"""Many lists of calls, each held call by call against the plain model."""

import random
import unittest

from tests.model import Model, model_answer
from tests.support import HUGE, Played


def some_place(chance, n):
    return chance.choice([0, n - 1, n, chance.randrange(n + 1), chance.randrange(n + 1), chance.randrange(n + 1)])


def some_stretch(chance, n):
    if chance.random() < 0.1:
        return [some_place(chance, n), some_place(chance, n)]
    p = chance.randrange(n)
    return [p, min(n, p + 1 + chance.choice([0, 1, 2, 3, n]))]


def some_signs(chance):
    if chance.random() < 0.03:
        return chance.choice([[], [31], [97, 127], [9, 10]])
    return [chance.choice([10, 32, 97, 98, 126]) for number in range(chance.randrange(1, 6))]


def every_question(model):
    """Each call that only asks, with each of its edges and all that lies between them."""
    n = len(model.shown())
    calls = [[10, w] for w in range(-1, 4)]
    calls += [[11, c] for c in range(len(model.changes) + 2)]
    calls += [[12], [16]]
    calls += [[13, p] for p in range(-1, n + 1)]
    calls += [[14, 0, i] for i in range(-1, len(model.row) + 1)]
    calls += [[14, 1, i] for i in (-1, 0, len(model.row))]
    calls += [[14, 2, i] for i in range(-1, len(model.originals()) + 1)]
    calls += [[15, i] for i in range(-1, n + 1)]
    return calls


def some_call(chance, n):
    kind = chance.choice([0, 0, 1, 2, 3, 3, 3, 4, 4, 5, 5, 5, 6, 6, 6, 7, 7, 10, 11, 12, 13, 14, 15, 16])
    if chance.random() < 0.01:
        kind = chance.choice([8, 9])
    if chance.random() < 0.01:
        count = (1, 1, 1, 0, 2, 4, 3, 4, 0, 0, 1, 1, 0, 1, 2, 1, 0)[kind]
        wrong = [chance.choice([-HUGE, HUGE, -1, 1000]) for number in range(count)]
        return [3, chance.choice([-HUGE, HUGE]), 1, 97] if kind == 3 else [kind] + wrong
    if kind == 0:
        return [0, chance.choice([1, 2, 3])]
    if kind == 1:
        return [1, chance.randrange(8)]
    if kind == 2:
        return [2, chance.choice([0, 1, 1, 1, 1])]
    if kind == 3:
        signs = some_signs(chance)
        return [3, chance.randrange(n), len(signs)] + signs
    if kind == 5:
        return [5] + some_stretch(chance, n) + [chance.randrange(4), chance.randrange(3)]
    if kind == 7:
        return [7] + some_stretch(chance, n) + [chance.choice([1, 2, 999]), chance.randrange(2)]
    if kind in (4, 6):
        p, q = some_stretch(chance, n)
        return [kind, p, max(p + 1, min(q, n - 1))] + [some_place(chance, n)] * (kind == 6)
    if kind == 10:
        return [10, chance.randrange(3)]
    if kind == 14:
        return [14, chance.choice([0, 2]), chance.randrange(2 * n)]
    if kind in (11, 13, 15):
        return [kind, chance.randrange(n + 1)]
    return [kind]


class ModelTest(unittest.TestCase):
    def ask_everything(self, seed, played, model):
        before = played.whole()
        for call in every_question(model):
            self.assertEqual(played.then(call).last, model_answer(model, call), (seed, call))
        self.assertEqual(played.whole(), before, seed)

    def play(self, seed, length):
        chance = random.Random(seed)
        played = Played()
        model = Model()
        for number in range(length):
            call = some_call(chance, len(model.shown()))
            expected = model_answer(model, call)
            self.assertEqual(played.then(call).last, expected, (seed, number, call))
            self.assertEqual(played.row(), model.pieces(), (seed, number, call))
            if number % 20 == 10:
                self.ask_everything(seed, played, model)
        self.ask_everything(seed, played, model)
        self.assertEqual(played.changes(), model.changes)
        self.assertEqual([tuple(model.look(piece)) for piece in model.shown()], played.looks_shown())

    def test_many_short_lists(self):
        for seed in range(200):
            with self.subTest(seed=seed):
                self.play(seed, 40)

    def test_some_long_lists(self):
        for seed in range(1000, 1004):
            with self.subTest(seed=seed):
                self.play(seed, 400)

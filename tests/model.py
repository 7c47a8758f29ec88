"""The document's words once more, as plainly as they go: one flat row, no short cuts.

The tests hold the package against it. It shares no code with the package.
"""


class Model:
    def __init__(self):
        self.row = [[10, [0, 0, 0, 0], [], [], [], []]]
        self.author = 1
        self.time = 0
        self.tracking = 0
        self.changes = []

    def shown(self):
        return [piece for piece in self.row if not piece[3]]

    def own(self, piece):
        return bool(piece[2]) and self.changes[piece[2][-1] - 1][0] == self.author

    def look(self, piece):
        look = list(piece[1])
        for change, k, v in piece[4]:
            look[k] = v
        return look

    def at(self, wanted):
        return [piece is wanted for piece in self.row].index(True)

    def leave(self, piece):
        self.row = [other for other in self.row if other is not piece]

    def marked(self):
        return sum(1 for piece in self.row if piece[2] or piece[3] or piece[4])

    def bears(self, m):
        return any(m in piece[2] or m in piece[3] or any(e[0] == m for e in piece[4]) for piece in self.row)

    def done(self, m, kind):
        if not self.bears(m):
            return [0]
        self.changes.append((self.author, self.time, kind))
        return [m]

    def call_0(self, a):
        if a < 1 or a > 99:
            return [-2]
        self.author = a
        return [0]

    def call_1(self, t):
        if t < 0:
            return [-2]
        if t < self.time:
            return [-3]
        self.time = t
        return [0]

    def call_2(self, on):
        if on != 0 and on != 1:
            return [-2]
        self.tracking = on
        return [0]

    def call_3(self, p, signs):
        shown = self.shown()
        if p < 0 or p > len(shown) - 1:
            return [-1]
        if not signs or any(s != 10 and (s < 32 or s > 126) for s in signs):
            return [-2]
        m = len(self.changes) + 1
        end = [piece for piece in shown[p:] if piece[0] == 10][0]
        new = []
        for sign in signs:
            if sign == 10:
                look = self.look(end)
            elif p > 0 and shown[p - 1][0] != 10:
                look = self.look(shown[p - 1])
            else:
                look = [0, 0, 0, 0]
            tags = [t for t in shown[p - 1][5] if t in shown[p][5]] if p > 0 else []
            new.append([sign, look, [m] if self.tracking else [], [], [], tags])
        at = self.at(shown[p])
        self.row[at:at] = new
        return self.done(m, 1)

    def call_4(self, p, q):
        shown = self.shown()
        if not 0 <= p < q <= len(shown) - 1:
            return [-1]
        m = len(self.changes) + 1
        for piece in shown[p:q]:
            if not self.tracking or self.own(piece):
                self.leave(piece)
            else:
                piece[3] = [m]
        return self.done(m, 2)

    def call_5(self, p, q, k, v):
        shown = self.shown()
        if not 0 <= p < q <= len(shown):
            return [-1]
        if k not in (0, 1, 2, 3) or v < 0 or v > 99:
            return [-2]
        m = len(self.changes) + 1
        for piece in shown[p:q]:
            if not self.tracking or self.own(piece):
                piece[4] = [entry for entry in piece[4] if entry[1] != k]
                piece[1][k] = v
            elif self.look(piece)[k] != v:
                piece[4].append((m, k, v))
        return self.done(m, 3)

    def call_6(self, p, q, r):
        shown = self.shown()
        n = len(shown)
        if not (0 <= p < q <= n - 1 and 0 <= r <= n - 1):
            return [-1]
        if p <= r <= q:
            return [-3]
        m = len(self.changes) + 1
        target = shown[r]
        for piece in shown[p:q]:
            if not self.tracking or self.own(piece):
                self.leave(piece)
                comer = piece
            else:
                comer = [piece[0], list(piece[1]), piece[2] + [m], [], list(piece[4]), list(piece[5])]
                piece[3] = [m]
            self.row.insert(self.at(target), comer)
        return self.done(m, 4)

    def call_7(self, p, q, t, on):
        shown = self.shown()
        if not 0 <= p < q <= len(shown):
            return [-1]
        if t < 1 or t > 999 or on not in (0, 1):
            return [-2]
        made = 0
        for piece in self.row[self.at(shown[p]):self.at(shown[q - 1]) + 1]:
            if (t in piece[5]) != (on == 1):
                piece[5] = sorted(piece[5] + [t]) if on else [x for x in piece[5] if x != t]
                made += not piece[3]
        return [made]

    def call_8(self):
        marked = self.marked()
        self.row = self.shown()
        for piece in self.row:
            piece[1] = self.look(piece)
            piece[2] = []
            piece[4] = []
        return [marked]

    def call_9(self):
        marked = self.marked()
        self.row = [piece for piece in self.row if not piece[2]]
        for piece in self.row:
            piece[3] = []
            piece[4] = []
        return [marked]

    def call_10(self, w):
        if w == 0:
            return self.view_of_all()
        if w == 1:
            return self.view_of([(piece, self.look(piece)) for piece in self.row if not piece[3]])
        if w == 2:
            return self.view_of([(piece, piece[1]) for piece in self.row if not piece[2]])
        return [-2]

    def view_of_all(self):
        answer = [len(self.row)]
        for sign, look, insertions, deletions, pending, tags in self.row:
            answer += [sign] + look + [len(insertions)] + insertions + [len(deletions)] + deletions
            answer += [len(pending)] + [number for entry in pending for number in entry] + [len(tags)] + tags
        return answer

    def view_of(self, text):
        answer = [len(text)]
        for piece, look in text:
            answer += [piece[0]] + look + [len(piece[5])] + piece[5]
        return answer

    def call_11(self, c):
        if c < 1 or c > len(self.changes):
            return [-4]
        inserted = sum(1 for piece in self.row if c in piece[2])
        deleted = sum(1 for piece in self.row if c in piece[3])
        pending = sum(1 for piece in self.row for entry in piece[4] if entry[0] == c)
        return list(self.changes[c - 1]) + [inserted, deleted, pending]

    def call_12(self):
        return [len(self.shown()), len(self.row), len(self.originals()), len(self.changes)]

    def originals(self):
        return [piece for piece in self.row if not piece[2]]

    def call_13(self, p):
        shown = self.shown()
        if p < 0 or p > len(shown) - 1:
            return [-1]
        before = self.row[:self.at(shown[p])]
        return [len(before), sum(1 for piece in before if not piece[2])]

    def call_14(self, w, i):
        if w not in (0, 2):
            return [-2]
        counted = self.row if w == 0 else self.originals()
        if i < 0 or i > len(counted) - 1:
            return [-1]
        return [sum(1 for piece in self.row[:self.at(counted[i])] if not piece[3])]

    def call_15(self, i):
        paragraphs = []
        first = 0
        for place, piece in enumerate(self.shown()):
            if piece[0] == 10:
                paragraphs.append([first, place + 1])
                first = place + 1
        return paragraphs[i] if 0 <= i < len(paragraphs) else [-1]

    def call_16(self):
        found = []
        before = None
        for at, piece in enumerate(self.row):
            marks = (piece[2], piece[3], piece[4])
            if any(marks) and marks == before:
                found[-1][1] += 1
            elif any(marks):
                found.append([at, 1, marks])
            before = marks
        answer = [len(found)]
        for at, length, (insertions, deletions, pending) in found:
            answer += [at, length, len(insertions)] + insertions + [len(deletions)] + deletions
            answer += [len(pending)] + [number for entry in pending for number in entry]
        return answer

    def pieces(self):
        return [(p[0], tuple(p[1]), list(p[2]), list(p[3]), list(p[4]), list(p[5])) for p in self.row]


def model_answer(model, call):
    """The answer to one call, written as the interface writes it."""
    if call[0] == 3:
        return model.call_3(call[1], call[3:])
    return getattr(model, f"call_{call[0]}")(*call[1:])

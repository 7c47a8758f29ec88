"""How the tests write calls and look at what they leave."""

from trackedtext.desk import answers_on
from trackedtext.document import Document
from trackedtext.row import all_pieces

HUGE = 10 ** 18
PLAIN = (0, 0, 0, 0)


def author(a):
    return [0, a]


def clock(t):
    return [1, t]


def track(on):
    return [2, on]


def put(p, signs):
    numbers = [ord(sign) for sign in signs] if isinstance(signs, str) else list(signs)
    return [3, p, len(numbers)] + numbers


def cut(p, q):
    return [4, p, q]


def paint(p, q, k, v):
    return [5, p, q, k, v]


def move(p, q, r):
    return [6, p, q, r]


def tag(p, q, t, on):
    return [7, p, q, t, on]


def accept():
    return [8]


def reject():
    return [9]


def view(w):
    return [10, w]


def change(c):
    return [11, c]


def size():
    return [12]


def where(p):
    return [13, p]


def from_of(w, i):
    return [14, w, i]


def paragraph(i):
    return [15, i]


def stretches():
    return [16]


def line(*calls):
    return [number for call in calls for number in call]


def parted(given):
    """The answers, a list for each call."""
    parts = []
    at = 0
    while at < len(given):
        end = at + 1 + given[at]
        assert end <= len(given), "an answer is shorter than its count"
        parts.append(given[at + 1:end])
        at = end
    return parts


class Told:
    """Takes an answer apart, number by number."""

    def __init__(self, answer):
        self.answer = answer
        self.at = 0

    def numbers(self, count):
        self.at += count
        assert self.at <= len(self.answer), "the answer is too short"
        return self.answer[self.at - count:self.at]

    def number(self):
        return self.numbers(1)[0]

    def counted(self, width=1):
        """How many, then these; entries of several numbers as tuples."""
        entries = [tuple(self.numbers(width)) for each in range(self.number())]
        return [entry[0] for entry in entries] if width == 1 else entries

    def done(self, value):
        assert self.at == len(self.answer), "the answer is too long"
        return value


def told_pieces(answer):
    """What view (0) answers, a piece as Played.row tells it."""
    told = Told(answer)
    return told.done([
        (told.number(), tuple(told.numbers(4)), told.counted(), told.counted(), told.counted(3), told.counted())
        for each in range(told.number())
    ])


def told_text(answer):
    """What view (1) and view (2) answer: for each piece its sign, its look, its tags."""
    told = Told(answer)
    return told.done([(told.number(), tuple(told.numbers(4)), told.counted()) for each in range(told.number())])


def told_stretches(answer):
    """What stretches answers: where each begins, its length, insertions, deletions, pending looks."""
    told = Told(answer)
    return told.done([
        (told.number(), told.number(), told.counted(), told.counted(), told.counted(3))
        for each in range(told.number())
    ])


def tag_list(tags):
    return [t for t in range(1000) if tags >> t & 1] if tags else []


def last_value(piece, k):
    values = [entry[2] for entry in piece.pending if entry[1] == k]
    return values[-1] if values else piece.look[k]


class Played:
    """A document behind some calls: the last answer, and the row as the tests tell it."""

    def __init__(self, *calls):
        self.document = Document()
        self.answers = parted(answers_on(self.document, line(*calls)))

    def then(self, *calls):
        self.answers = parted(answers_on(self.document, line(*calls)))
        return self

    @property
    def last(self):
        return self.answers[-1]

    def ask(self, call):
        """The answer to a call that must change nothing."""
        before = self.whole()
        answer = self.then(call).last
        assert self.whole() == before, f"{call} changed something"
        return answer

    def row(self):
        """Every piece: sign, own look, insertions, deletions, pending looks, tags."""
        return [
            (piece.sign, tuple(piece.look), list(piece.insertions), list(piece.deletions),
             list(piece.pending), tag_list(piece.tags))
            for piece in all_pieces(self.document.row)
        ]

    def changes(self):
        return list(self.document.changes)

    def marks(self):
        """The row in short: "a+1-2" is an a with the insertion 1 and the deletion 2."""
        return " ".join(
            name(sign) + "".join(f"+{c}" for c in insertions) + "".join(f"-{c}" for c in deletions)
            for sign, look, insertions, deletions, pending, tags in self.row()
        )

    def accepted(self):
        return "".join(name(piece[0]) for piece in self.row() if not piece[3])

    def rejected(self):
        return "".join(name(piece[0]) for piece in self.row() if not piece[2])

    def looks_shown(self):
        """The look as shown of each shown piece, worked out from its pending looks."""
        return [
            tuple(last_value(piece, k) for k in range(4))
            for piece in all_pieces(self.document.row) if not piece.deletions
        ]

    def own_looks(self):
        return [piece[1] for piece in self.row()]

    def pending(self):
        return [piece[4] for piece in self.row()]

    def tags(self):
        return [piece[5] for piece in self.row()]

    def whole(self):
        """All that a refused call must leave as it was."""
        document = self.document
        return (self.row(), self.changes(), document.author, document.time, bool(document.tracking))


def name(sign):
    return "|" if sign == 10 else chr(sign)


def assert_refused(case, calls, refused, number):
    """The call is refused with the number, and everything stays as it was."""
    played = Played(*calls)
    before = played.whole()
    case.assertEqual(played.then(refused).last, [number], refused)
    case.assertEqual(played.whole(), before, refused)

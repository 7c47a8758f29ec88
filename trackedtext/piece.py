"""One piece of the text: its sign, its look and its marks.

The lists of marks are tuples, so that pieces may share them: whoever adds to
one makes a new one.
"""

PARAGRAPH_END = 10
PLAIN_LOOK = (0, 0, 0, 0)


class Piece:
    def __init__(self, sign, look, tags):
        self.sign = sign
        self.look = look
        # The look as shown is kept beside the own look, not worked out each
        # time: a piece may bear hundreds of pending looks.
        self.seen = look
        self.insertions = ()
        self.deletions = ()
        self.pending = ()
        # Tag t is the bit t of one number: so tags rise and none is there twice.
        self.tags = tags


def is_sign(number):
    return number == PARAGRAPH_END or 32 <= number <= 126


def is_marked(piece):
    return len(piece.insertions) + len(piece.deletions) + len(piece.pending) > 0


def is_shown(piece):
    return piece.deletions == ()


def is_original(piece):
    return piece.insertions == ()


def has_same_marks(piece, other):
    return (piece.insertions == other.insertions and piece.deletions == other.deletions
            and piece.pending == other.pending)


def copy_with(piece, insertions):
    twin = Piece(piece.sign, piece.look, piece.tags)
    twin.seen = piece.seen
    twin.insertions = insertions
    twin.pending = piece.pending
    return twin


def look_with(look, k, v):
    return look[:k] + (v,) + look[k + 1:]


def paint_over(piece, k, v):
    piece.pending = tuple([entry for entry in piece.pending if entry[1] != k])
    piece.look = look_with(piece.look, k, v)
    piece.seen = look_with(piece.seen, k, v)


def add_pending(piece, entry):
    piece.pending = piece.pending + (entry,)
    piece.seen = look_with(piece.seen, entry[1], entry[2])


def settle(piece):
    piece.look = piece.seen
    piece.insertions = ()
    piece.pending = ()


def restore(piece):
    piece.seen = piece.look
    piece.deletions = ()
    piece.pending = ()


def listed_marks(piece):
    numbers = [len(piece.insertions)]
    numbers.extend(piece.insertions)
    numbers.append(len(piece.deletions))
    numbers.extend(piece.deletions)
    numbers.append(len(piece.pending))
    for entry in piece.pending:
        numbers.extend(entry)
    return numbers

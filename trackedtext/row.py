"""The row of pieces, kept so that a place finds its piece at once.

shown[i] is the shown piece at place i. hidden[i] are the pieces that are not
shown and stand directly before it, behind the shown piece before it. The last
piece of the row is always shown, so each piece that is not shown has such an i.

Moves may leave millions of pieces behind that are not shown, but few different
marks among them. So hidden[i] is told in lists, each of neighbours that bear
the same marks, and whoever counts looks at the first of each alone. Where
nothing is hidden the empty tuple stands: there is only one of it, however long
the row.
"""

from trackedtext.piece import PARAGRAPH_END, PLAIN_LOOK, Piece, has_same_marks, is_marked, is_original


class Row:
    def __init__(self):
        self.shown = [Piece(PARAGRAPH_END, PLAIN_LOOK, 0)]
        self.hidden = [()]


class Run:
    # Neighbours in the row that bear the same marks: one of them, and how many.
    def __init__(self, piece, length):
        self.piece = piece
        self.length = length


def all_pieces(row):
    pieces = []
    for place, piece in enumerate(row.shown):
        for neighbours in row.hidden[place]:
            pieces.extend(neighbours)
        pieces.append(piece)
    return pieces


def original_pieces(row):
    pieces = []
    for place, piece in enumerate(row.shown):
        for neighbours in row.hidden[place]:
            if is_original(neighbours[0]):
                pieces.extend(neighbours)
        if is_original(piece):
            pieces.append(piece)
    return pieces


def all_runs(row):
    last = len(row.shown) - 1
    runs = runs_before(row, last)
    add_to_runs(runs, row.shown[last], 1)
    return runs


def runs_before(row, p):
    runs = []
    for place in range(p):
        add_hidden_to_runs(runs, row.hidden[place])
        add_to_runs(runs, row.shown[place], 1)
    add_hidden_to_runs(runs, row.hidden[p])
    return runs


def add_hidden_to_runs(runs, hidden):
    for neighbours in hidden:
        add_to_runs(runs, neighbours[0], len(neighbours))


def add_to_runs(runs, piece, length):
    last = runs[-1] if len(runs) > 0 else None
    if last is not None and has_same_marks(last.piece, piece):
        last.length += length
    else:
        runs.append(Run(piece, length))


def count_marked(row):
    return sum([run.length for run in all_runs(row) if is_marked(run.piece)])


def stand_before(row, p, pieces):
    # What is hidden before place p stays ahead of the pieces, so the first of
    # them takes it over; the piece that was at p has nothing hidden before it.
    row.shown = row.shown[:p] + pieces + row.shown[p:]
    row.hidden = row.hidden[:p + 1] + [()] * len(pieces) + row.hidden[p + 1:]


def take_out(row, p, q):
    # A piece of the stretch that got a deletion stays in the row and is hidden
    # from now; one without leaves the row.
    left = []
    for place in range(p, q):
        left.extend(row.hidden[place])
        if row.shown[place].deletions != ():
            hide_behind(left, row.shown[place])
    left.extend(row.hidden[q])
    row.shown = row.shown[:p] + row.shown[q:]
    row.hidden = row.hidden[:p] + [left] + row.hidden[q + 1:]


def hide_behind(hidden, piece):
    if len(hidden) > 0 and has_same_marks(hidden[-1][0], piece):
        hidden[-1].append(piece)
    else:
        hidden.append([piece])


def fill_with(row, pieces):
    row.shown = pieces
    row.hidden = [()] * len(pieces)

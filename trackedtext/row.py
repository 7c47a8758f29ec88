"""The row of pieces, kept so that a place finds its piece at once.

shown[i] is the shown piece at place i. hidden[i] are the pieces that are not
shown and stand directly before it, behind the shown piece before it. The last
piece of the row is always shown, so each piece that is not shown has such an i.
"""

from trackedtext.piece import PARAGRAPH_END, PLAIN_LOOK, Piece, is_marked


class Row:
    def __init__(self):
        self.shown = [Piece(PARAGRAPH_END, PLAIN_LOOK, 0)]
        self.hidden = [[]]


def all_pieces(row):
    pieces = []
    for place, piece in enumerate(row.shown):
        pieces.extend(row.hidden[place])
        pieces.append(piece)
    return pieces


def count_marked(row):
    # A piece that is not shown has deletions, so it is marked in any case.
    hidden = sum([len(pieces) for pieces in row.hidden])
    return hidden + len([piece for piece in row.shown if is_marked(piece)])


def stand_before(row, p, pieces):
    # What is hidden before place p stays ahead of the pieces, so the first of
    # them takes it over; the piece that was at p has nothing hidden before it.
    gaps = [[] for piece in pieces]
    row.shown = row.shown[:p] + pieces + row.shown[p:]
    row.hidden = row.hidden[:p + 1] + gaps + row.hidden[p + 1:]


def take_out(row, p, q):
    # A piece of the stretch that got a deletion stays in the row and is hidden
    # from now; one without leaves the row.
    left = []
    for place in range(p, q):
        left.extend(row.hidden[place])
        if row.shown[place].deletions != ():
            left.append(row.shown[place])
    left.extend(row.hidden[q])
    row.shown = row.shown[:p] + row.shown[q:]
    row.hidden = row.hidden[:p] + [left] + row.hidden[q + 1:]


def drop_hidden(row):
    row.hidden = [[] for piece in row.shown]

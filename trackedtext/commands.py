"""The calls that may be tracked: put, cut, paint and move."""

from trackedtext.document import enter_change, is_untracked, next_change, size_of
from trackedtext.piece import PARAGRAPH_END, PLAIN_LOOK, Piece
from trackedtext.piece import add_pending, copy_with, is_sign, paint_over
from trackedtext.row import stand_before, take_out

KIND_PUT = 1
KIND_CUT = 2
KIND_PAINT = 3
KIND_MOVE = 4


def put(document, p, signs):
    if not 0 <= p < size_of(document):
        return [-1]
    if signs == [] or not all([is_sign(number) for number in signs]):
        return [-2]
    pieces = new_pieces(document.row.shown, p, signs)
    bearers = 0
    if document.tracking:
        mark_put(pieces, next_change(document))
        bearers = len(pieces)
    stand_before(document.row, p, pieces)
    return enter_change(document, KIND_PUT, bearers)


def new_pieces(shown, p, signs):
    tags = shared_tags(shown, p)
    letter_look = look_for_letters(shown, p)
    end_look = look_for_ends(shown, p)
    return [Piece(sign, end_look if sign == PARAGRAPH_END else letter_look, tags) for sign in signs]


def shared_tags(shown, p):
    if p == 0:
        return 0
    return shown[p - 1].tags & shown[p].tags


def look_for_letters(shown, p):
    if p == 0 or shown[p - 1].sign == PARAGRAPH_END:
        return PLAIN_LOOK
    return shown[p - 1].seen


def look_for_ends(shown, p):
    # The last end is shown and stands at p or behind, so the loop comes to a halt.
    place = p
    while shown[place].sign != PARAGRAPH_END:
        place += 1
    return shown[place].seen


def mark_put(pieces, change):
    insertions = (change,)
    for piece in pieces:
        piece.insertions = insertions


def cut(document, p, q):
    if not 0 <= p < q <= size_of(document) - 1:
        return [-1]
    deletions = (next_change(document),)
    bearers = 0
    for piece in document.row.shown[p:q]:
        if not is_untracked(document, piece):
            piece.deletions = deletions
            bearers += 1
    take_out(document.row, p, q)
    return enter_change(document, KIND_CUT, bearers)


def paint(document, p, q, k, v):
    if not 0 <= p < q <= size_of(document):
        return [-1]
    if not 0 <= k <= 3 or not 0 <= v <= 99:
        return [-2]
    entry = (next_change(document), k, v)
    bearers = 0
    for piece in document.row.shown[p:q]:
        if is_untracked(document, piece):
            paint_over(piece, k, v)
        elif piece.seen[k] != v:
            add_pending(piece, entry)
            bearers += 1
    return enter_change(document, KIND_PAINT, bearers)


def move(document, p, q, r):
    last = size_of(document) - 1
    if not 0 <= p < q <= last or not 0 <= r <= last:
        return [-1]
    if p <= r <= q:
        return [-3]
    stretch = document.row.shown[p:q]
    untracked = [is_untracked(document, piece) for piece in stretch]
    comers = pieces_that_come(stretch, untracked, next_change(document))
    take_out(document.row, p, q)
    # Behind the stretch every place has gone down by the pieces taken out.
    stand_before(document.row, r if r < p else r - (q - p), comers)
    return enter_change(document, KIND_MOVE, untracked.count(False))


def pieces_that_come(stretch, untracked, change):
    deletions = (change,)
    # Pieces of a stretch mostly have the same insertions: one tuple serves
    # them all, where a tuple each would fill the memory move by move.
    longer = {}
    comers = []
    for piece, alone in zip(stretch, untracked):
        if alone:
            comers.append(piece)
        else:
            comers.append(copy_with(piece, lengthened(longer, piece.insertions, change)))
            piece.deletions = deletions
    return comers


def lengthened(longer, insertions, change):
    if insertions not in longer:
        longer[insertions] = insertions + (change,)
    return longer[insertions]

"""The call view: all pieces, the accepted text or the rejected text."""

from trackedtext.piece import listed_marks
from trackedtext.row import all_pieces, original_pieces

VIEW_ALL = 0
VIEW_ACCEPTED = 1
VIEW_REJECTED = 2


def view(document, w):
    if w == VIEW_ALL:
        return view_of_all(all_pieces(document.row))
    if w == VIEW_ACCEPTED:
        shown = document.row.shown
        return view_of_text(shown, [piece.seen for piece in shown])
    if w == VIEW_REJECTED:
        kept = original_pieces(document.row)
        return view_of_text(kept, [piece.look for piece in kept])
    return [-2]


def view_of_all(pieces):
    answer = [len(pieces)]
    known = {}
    for piece in pieces:
        answer.append(piece.sign)
        answer.extend(piece.look)
        answer.extend(listed_marks(piece))
        answer.extend(listed_tags(known, piece.tags))
    return answer


def view_of_text(pieces, looks):
    answer = [len(pieces)]
    known = {}
    for piece, look in zip(pieces, looks):
        answer.append(piece.sign)
        answer.extend(look)
        answer.extend(listed_tags(known, piece.tags))
    return answer


def listed_tags(known, tags):
    # Many pieces have the same tags, so each such number is taken apart once.
    if tags not in known:
        numbers = bits_of(tags)
        known[tags] = [len(numbers)] + numbers
    return known[tags]


def bits_of(tags):
    numbers = []
    rest = tags
    while rest > 0:
        lowest = rest & -rest
        numbers.append(lowest.bit_length() - 1)
        rest -= lowest
    return numbers

"""The call stretches: where in the row which marks are."""

from trackedtext.piece import has_same_marks, is_marked
from trackedtext.row import all_pieces


class Stretch:
    def __init__(self, begin, piece):
        self.begin = begin
        self.length = 1
        self.piece = piece


def stretches(document):
    found = marked_stretches(all_pieces(document.row))
    answer = [len(found)]
    for stretch in found:
        answer.append(stretch.begin)
        answer.append(stretch.length)
        answer.extend(listed_marks(stretch.piece))
    return answer


def marked_stretches(pieces):
    found = []
    # The stretch that the next piece may still belong to, if there is one.
    current = None
    for begin, piece in enumerate(pieces):
        if not is_marked(piece):
            current = None
        elif current is not None and has_same_marks(current.piece, piece):
            current.length += 1
        else:
            current = Stretch(begin, piece)
            found.append(current)
    return found


def listed_marks(piece):
    numbers = [len(piece.insertions)]
    numbers.extend(piece.insertions)
    numbers.append(len(piece.deletions))
    numbers.extend(piece.deletions)
    numbers.append(len(piece.pending))
    for entry in piece.pending:
        numbers.extend(entry)
    return numbers

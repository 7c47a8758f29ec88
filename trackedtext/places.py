"""The calls that count pieces: size, where, from_of and paragraph."""

from trackedtext.document import size_of
from trackedtext.piece import PARAGRAPH_END, is_original, is_shown
from trackedtext.row import all_runs, runs_before

BY_ALL_PIECES = 0
BY_ORIGINAL_PIECES = 2


def size(document):
    runs = all_runs(document.row)
    return [size_of(document), count_all(runs), count_original(runs), len(document.changes)]


def where(document, p):
    if not 0 <= p < size_of(document):
        return [-1]
    runs = runs_before(document.row, p)
    return [count_all(runs), count_original(runs)]


def count_all(runs):
    return sum([run.length for run in runs])


def count_original(runs):
    return sum([run.length for run in runs if is_original(run.piece)])


def from_of(document, w, i):
    if w != BY_ALL_PIECES and w != BY_ORIGINAL_PIECES:
        return [-2]
    if i < 0:
        return [-1]
    shown = 0
    # How many of the pieces that w counts are still to be passed.
    left = i
    for run in all_runs(document.row):
        if w == BY_ALL_PIECES or is_original(run.piece):
            if left < run.length:
                return [shown + left if is_shown(run.piece) else shown]
            left -= run.length
        if is_shown(run.piece):
            shown += run.length
    return [-1]


def paragraph(document, i):
    ends = [place for place, piece in enumerate(document.row.shown) if piece.sign == PARAGRAPH_END]
    if not 0 <= i < len(ends):
        return [-1]
    begin = 0 if i == 0 else ends[i - 1] + 1
    return [begin, ends[i] + 1]

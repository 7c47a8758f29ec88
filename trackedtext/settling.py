"""The calls that settle all changes: accept and reject."""

from trackedtext.piece import restore, settle
from trackedtext.row import count_marked, fill_with, original_pieces


def accept(document):
    marked = count_marked(document.row)
    for piece in document.row.shown:
        settle(piece)
    fill_with(document.row, document.row.shown)
    return [marked]


def reject(document):
    marked = count_marked(document.row)
    kept = original_pieces(document.row)
    for piece in kept:
        restore(piece)
    fill_with(document.row, kept)
    return [marked]

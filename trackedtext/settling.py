"""The call that settles all changes: accept."""

from trackedtext.piece import settle
from trackedtext.row import count_marked, drop_hidden


def accept(document):
    marked = count_marked(document.row)
    drop_hidden(document.row)
    for piece in document.row.shown:
        settle(piece)
    return [marked]

"""The document: its row, its changes, and who works on it at the moment."""

from trackedtext.row import Row


class Document:
    def __init__(self):
        self.row = Row()
        self.author = 1
        self.time = 0
        self.tracking = False
        # Change c is changes[c - 1]: its author, its time, its kind.
        self.changes = []


def size_of(document):
    return len(document.row.shown)


def next_change(document):
    return len(document.changes) + 1


def enter_change(document, kind, bearers):
    # A command whose change no piece bears has entered none.
    if bearers == 0:
        return [0]
    document.changes.append((document.author, document.time, kind))
    return [len(document.changes)]


def is_own(document, piece):
    if piece.insertions == ():
        return False
    change = document.changes[piece.insertions[-1] - 1]
    return change[0] == document.author


def is_untracked(document, piece):
    return not document.tracking or is_own(document, piece)

"""The calls that tell of marks: stretches and change."""

from trackedtext.piece import is_marked, listed_marks
from trackedtext.row import all_runs


def stretches(document):
    count = 0
    told = []
    begin = 0
    for run in all_runs(document.row):
        if is_marked(run.piece):
            count += 1
            told.extend([begin, run.length])
            told.extend(listed_marks(run.piece))
        begin += run.length
    return [count] + told


def change(document, c):
    if not 1 <= c <= len(document.changes):
        return [-4]
    inserted = 0
    deleted = 0
    pending = 0
    for run in all_runs(document.row):
        if c in run.piece.insertions:
            inserted += run.length
        if c in run.piece.deletions:
            deleted += run.length
        entries = [entry for entry in run.piece.pending if entry[0] == c]
        pending += run.length * len(entries)
    return list(document.changes[c - 1]) + [inserted, deleted, pending]

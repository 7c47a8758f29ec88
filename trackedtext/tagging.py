"""The call tag, which is never tracked."""

from trackedtext.document import size_of


def tag(document, p, q, t, on):
    if not 0 <= p < q <= size_of(document):
        return [-1]
    if not 1 <= t <= 999 or on not in (0, 1):
        return [-2]
    # What is hidden before place p stands ahead of the first tagged piece.
    for hidden in document.row.hidden[p + 1:q]:
        for neighbours in hidden:
            tag_pieces(neighbours, t, on)
    return [tag_pieces(document.row.shown[p:q], t, on)]


def tag_pieces(pieces, t, on):
    bit = 1 << t
    changed = 0
    for piece in pieces:
        tags = piece.tags | bit if on == 1 else piece.tags & ~bit
        if tags != piece.tags:
            piece.tags = tags
            changed += 1
    return changed

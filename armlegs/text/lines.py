"""Lines of a shell: their pieces, and what each piece tells."""

from armlegs.base.digits import are_digits
from armlegs.desk.desk import MOST_PUT_ROWS, is_desk_shape, is_name
from armlegs.sums.sums import KINDS
from armlegs.text.terms import told_poly, told_shape

# What stands behind the words of lines.
DEED_PIECES = {
    "shape": ("name", "shape"), "put": ("name", "kind", "shape"), "add": ("name", "name"), "take": ("name", "name"),
    "times": ("name", "poly"), "turn": ("name",), "trade": ("name",), "letters": ("name", "few"), "nabla": ("name",),
    "drop": ("name",),
}
QUESTION_PIECES = {"equal": ("name", "name"), "whole": ("name",), "apart": ("name", "name"), "which": ("name",)}
OTHER_PIECES = {
    "stand": ("number",), "undo": ("number",), "show": ("name",), "number": ("name", "kind", "shape"), "list": (),
    "open": (),
}


def pieces_of(line):
    """The list of the pairs (index at which a piece begins, the piece)."""
    found = []
    start = 0
    for piece in line.split(" "):
        if piece != "":
            found.append((start, piece))
        start = start + len(piece) + 1
    return found


def told_number(piece):
    """The integer that a piece tells, of any length, or None."""
    digits = piece[1:] if piece.startswith("-") else piece
    if not are_digits(digits) or (digits[0] == "0" and piece != "0"):
        return None
    return int(piece)


def told_piece(form, piece):
    """What a piece of this form tells, or None."""
    if form == "name":
        return piece if is_name(piece) else None
    if form == "kind":
        return piece if piece in KINDS else None
    if form == "shape":
        shape = told_shape(piece)[0]
        return shape if is_desk_shape(shape) else None
    if form == "number":
        return told_number(piece)
    poly = told_poly(piece)[0]
    if form == "few" and poly is not None and len(poly) > MOST_PUT_ROWS:
        return None
    return poly


def forms_behind(word, is_pinned):
    """The forms of the pieces behind a word, or None if no line begins with the word, or none behind "pin"."""
    if word in QUESTION_PIECES:
        return QUESTION_PIECES[word]
    if is_pinned:
        return None
    if word in DEED_PIECES:
        return DEED_PIECES[word]
    return OTHER_PIECES.get(word, None)


def told_line(line):
    """The pair (tuple of the words and values that a line tells, None), or (None, index at which it is wrong)."""
    pieces = pieces_of(line)
    if not pieces:
        return ((), None)
    words = 2 if pieces[0][1] == "pin" else 1
    if len(pieces) < words:
        return (None, len(line))
    start, word = pieces[words - 1]
    forms = forms_behind(word, words == 2)
    if forms is None:
        return (None, start)
    told = [piece for _, piece in pieces[:words]]
    for form, (start, piece) in zip(forms, pieces[words:]):
        value = told_piece(form, piece)
        if value is None:
            return (None, start)
        told.append(value)
    if len(told) < words + len(forms):
        return (None, len(line))
    if len(pieces) > len(told):
        return (None, pieces[len(told)][0])
    return (tuple(told), None)

"""Letters, rows and scales, and the refusal of what is none (point 2)."""

from seedreach.errors import BadRow

ALPHABET = "abcdefghijklmnopqrstuvwxyz"
FEWEST_LETTERS = 2
MOST_LETTERS = 6
LONGEST_ROW = 60
LEAST_WEIGHT = 1
MOST_WEIGHT = 9


def need_letters(letters):
    """Refuse letters that are not two to six unlike small ones."""
    if len(letters) < FEWEST_LETTERS or len(letters) > MOST_LETTERS:
        raise BadRow("letters are two to six")
    for sign in letters:
        if sign not in ALPHABET:
            raise BadRow("a letter is a small one from a to z")
        if letters.count(sign) > 1:
            raise BadRow("a letter stands twice")


def need_row(row, letters):
    """Refuse a row that is too long or has a sign that is no letter."""
    if len(row) > LONGEST_ROW:
        raise BadRow("a row has sixty signs at most")
    for sign in row:
        if sign not in letters:
            raise BadRow("a sign of the row is none of the letters")


def need_scale(scale):
    """Refuse a scale whose gain or loss is not from 1 to 9."""
    gain, loss = scale
    for weight in (gain, loss):
        if weight < LEAST_WEIGHT or weight > MOST_WEIGHT:
            raise BadRow("gain and loss are each from 1 to 9")

"""A shelf written as a text, and read from it (point 13)."""

from seedreach.errors import BadRow, BadSeed, BadText
from seedreach.shelf import Shelf

LETTERS = "letters"
SCALE = "scale"
SEEDS = "seeds"
ROW = "row"
HEAD_LINES = 3
FIGURES = "123456789"


def written(shelf):
    """The shelf as rows of a text, with one line end between."""
    gain, loss = shelf.scale
    lines = [[LETTERS, shelf.letters], [SCALE, str(gain), str(loss)], [SEEDS, *shelf.seeds]]
    for row in shelf.rows():
        lines.append([ROW, row])
    return "\n".join([" ".join(words) for words in lines])


def read(text):
    """The shelf that is written so; BadText where there is none."""
    lines = text.split("\n")
    if len(lines) < HEAD_LINES:
        raise BadText("letters, scale and seeds stand ahead of the rows")
    letters = _behind(LETTERS, lines[0])
    scale = _scale_of(_behind(SCALE, lines[1]))
    seeds = _behind(SEEDS, lines[2]).split(" ")
    rows = [_behind(ROW, line) for line in lines[HEAD_LINES:]]
    return _laid(letters, scale, seeds, rows)


def _behind(word, line):
    """What stands on a line behind its word and one blank."""
    if not line.startswith(word + " "):
        raise BadText("a line does not begin with its word and a blank")
    return line[len(word) + 1:]


def _scale_of(numbers):
    """The scale of a text of two numbers."""
    words = numbers.split(" ")
    # Each number of a scale is one figure; int alone would take "+1", "01" and figures of other scripts as well.
    if len(words) != 2 or not all([len(word) == 1 and word in FIGURES for word in words]):
        raise BadText("a scale is two numbers from 1 to 9")
    gain, loss = words
    return (int(gain), int(loss))


def _laid(letters, scale, seeds, rows):
    """A shelf on which the rows are laid; BadText where some of it is none."""
    try:
        shelf = Shelf(letters, scale, seeds)
        for row in rows:
            shelf.lay(row)
    except (BadRow, BadSeed):
        raise BadText("letters, seeds or a row are none") from None
    return shelf

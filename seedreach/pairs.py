"""All pairs of rows of a shelf: what each is worth, and what is left out of them why (point 12)."""

from seedreach.seeds import need_above


def bound(one, other, scale):
    """The worth of as many like pairs as both rows have signs for; no stretch of both is worth more."""
    gain, _ = scale
    return gain * sum([min(one.count(sign), other.count(sign)) for sign in sorted(set(one))])


def pairs(shelf, told):
    """What is found, what is left as its bound is less than told, and the rest; of each two rows."""
    need_above(told, shelf.limit)
    rows = shelf.rows()
    found = []
    left = []
    rest = []
    for i, row in enumerate(rows):
        greatest = _greatest_worths(shelf.find(row, told))
        for j in range(i + 1, len(rows)):
            most = bound(row, rows[j], shelf.scale)
            if j in greatest:
                found.append((i, j, greatest[j]))
            elif most < told:
                left.append((i, j, most))
            else:
                rest.append((i, j))
    return (found, left, rest)


def _greatest_worths(stretches):
    """For each row that a stretch is found on, the greatest worth of one."""
    greatest = {}
    for stretch in stretches:
        number, worth = stretch[0], stretch[4]
        greatest[number] = max(worth, greatest.get(number, 0))
    return greatest

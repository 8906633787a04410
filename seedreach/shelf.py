"""The shelf: its rows, their windows, what is found by these, and deeds on a row (points 8, 9 and 10)."""

from seedreach.errors import BadRow, NoPlace, NoRow
from seedreach.rows import need_letters, need_row, need_scale
from seedreach.seeds import PICK, bar, need_above, need_seeds
from seedreach.worths import lane_reaches


class Shelf:
    """Rows beside which others are held, by short rows with gaps, seeds."""

    def __init__(self, letters, scale, seeds):
        need_letters(letters)
        need_scale(scale)
        need_seeds(seeds)
        self.letters = letters
        self.scale = scale
        self.seeds = list(seeds)
        self.limit = bar(self.seeds, scale)
        self.laid = []

    def lay(self, row):
        """Lay a row behind the others and tell its number."""
        need_row(row, self.letters)
        self.laid.append(row)
        return len(self.laid) - 1

    def rows(self):
        """All rows, in the order of their numbers."""
        return list(self.laid)

    def windows(self):
        """The windows of all rows as (seed, picked, row, place), ascending."""
        found = []
        for number, row in enumerate(self.laid):
            for seed, picked, place in _windows_of(row, self.seeds):
                found.append((seed, picked, number, place))
        return sorted(found)

    def find(self, row, told):
        """The ripe stretches of row with all rows that are worth told at least, ascending.

        Each is told as (number, shift, begin, end, worth). On a lane on which no seed
        fits no stretch is worth more than the bar, so none of those is looked at.
        """
        need_row(row, self.letters)
        need_above(told, self.limit)
        found = []
        for number, shift in self._seeded_lanes(row):
            for begin, end, worth in lane_reaches(row, self.laid[number], shift, self.scale, told):
                found.append((number, shift, begin, end, worth))
        return found

    def change(self, number, place, sign):
        """Put another sign at a place of a row; tell how many windows are gone and how many come."""
        row = self._row_of(number)
        _need_place(place, len(row) - 1)
        _need_sign(sign, self.letters)
        self.laid[number] = row[:place] + sign + row[place + 1:]
        over = _windows_over(self.seeds, len(row), place, place)
        return (over, over)

    def put(self, number, place, sign):
        """Put a sign in ahead of a place of a row, or behind all; tell how many windows are gone, how many come."""
        row = self._row_of(number)
        _need_place(place, len(row))
        _need_sign(sign, self.letters)
        changed = row[:place] + sign + row[place:]
        need_row(changed, self.letters)
        self.laid[number] = changed
        gone = _windows_over(self.seeds, len(row), place - 1, place)
        return (gone, _windows_over(self.seeds, len(changed), place, place))

    def cut(self, number, place):
        """Take the sign at a place of a row out; tell how many windows are gone and how many come."""
        row = self._row_of(number)
        _need_place(place, len(row) - 1)
        changed = row[:place] + row[place + 1:]
        self.laid[number] = changed
        gone = _windows_over(self.seeds, len(row), place, place)
        return (gone, _windows_over(self.seeds, len(changed), place - 1, place))

    def _row_of(self, number):
        """The row of a number; refused where there is none."""
        if number < 0 or number >= len(self.laid):
            raise NoRow("no row has that number")
        return self.laid[number]

    def _seeded_lanes(self, row):
        """The lanes of row with all rows on which a seed fits, as (number, shift), ascending.

        A seed fits just where it picks the same signs from both rows.
        """
        places = {}
        for seed, picked, number, place in self.windows():
            places.setdefault((seed, picked), []).append((number, place))
        lanes = set()
        for seed, picked, begin in _windows_of(row, self.seeds):
            for number, place in places.get((seed, picked), []):
                lanes.add((number, place - begin))
        return sorted(lanes)


def _need_place(place, last):
    """Refuse a place that is not from 0 to the last one."""
    if place < 0 or place > last:
        raise NoPlace("the row has no such place")


def _need_sign(sign, letters):
    """Refuse a text that is no one of the letters."""
    if len(sign) != 1 or sign not in letters:
        raise BadRow("a sign is one of the letters")


def _windows_of(row, seeds):
    """The windows of one row as (seed, picked, place)."""
    found = []
    for number, seed in enumerate(seeds):
        for place in range(len(row) - len(seed) + 1):
            found.append((number, _picked(seed, row, place), place))
    return found


def _picked(seed, row, place):
    """The signs of the row under the # of a seed that lies on it from place on."""
    return "".join([row[place + at] for at, sign in enumerate(seed) if sign == PICK])


def _windows_over(seeds, length, first, last):
    """How many windows of a row of that length have the places from first to last under them.

    None has a place under it that the row has not.
    """
    many = 0
    for seed in seeds:
        for place in range(length - len(seed) + 1):
            if place <= first and last < place + len(seed):
                many += 1
    return many

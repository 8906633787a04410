"""Likes of lanes, what they are worth, and their ripe stretches (points 3, 4, 5 and 7)."""

LIKE = "="
UNLIKE = "/"


def lane_begin(shift):
    """The first place of the first row that is on the lane, if there is one."""
    return max(0, -shift)


def likes_of(one, other, shift):
    """The likes of the lane that lays place p of one beside place p + shift of other."""
    begin = lane_begin(shift)
    end = min(len(one), len(other) - shift)
    return "".join([LIKE if one[place] == other[place + shift] else UNLIKE for place in range(begin, end)])


def worth_of(likes, scale):
    """Gain for each like pair less loss for each unlike one."""
    gain, loss = scale
    return gain * likes.count(LIKE) - loss * likes.count(UNLIKE)


def greatest_worth(likes, scale):
    """The greatest worth of a stretch of likes, which have one pair at least."""
    ending = 0
    worths = []
    for pair in likes:
        # What is worth less than 0 is better left out ahead of the pair.
        ending = max(0, ending) + worth_of(pair, scale)
        worths.append(ending)
    return max(worths)


def ripe(likes, scale):
    """The ripe stretches of likes as (begin, end), ascending.

    Let the level at a place be the worth of all that lies ahead of it. A stretch
    stands by itself just where the level at its begin is lower, and the level at its
    end higher, than every other one from its begin to its end. So each like pair does
    by itself, and from left to right it is joined to what lies ahead of it for as
    long as the whole still does.
    """
    gain, loss = scale
    parts = []
    level = 0
    for place, pair in enumerate(likes):
        if pair == LIKE:
            _join(parts, place, level, level + gain)
            level += gain
        else:
            level -= loss
    return [part[:2] for part in parts]


def _join(parts, place, low, high):
    """Put the like pair at place behind parts, as one with those that it can be joined to.

    A part is (begin, end, low, high): its stretch, and the levels at its begin and end.
    """
    begin = place
    at = _last_below(parts, low)
    # Where the nearest lower part ends as high as this one, no longer whole can end here:
    # each would have that part's end within it.
    while at >= 0 and parts[at][3] < high:
        begin, low = parts[at][0], parts[at][2]
        # What lies between the two goes into the whole as well.
        del parts[at:]
        at = _last_below(parts, low)
    parts.append((begin, place + 1, low, high))


def _last_below(parts, low):
    """The index of the last part that begins lower than low, or -1.

    A part behind it can't begin the whole: the level would be as low again within.
    """
    at = len(parts) - 1
    while at >= 0 and parts[at][2] >= low:
        at -= 1
    return at


def lane_reaches(one, other, shift, scale, told):
    """The ripe stretches of a lane that are worth told at least, as (begin, end, worth), ascending.

    The places are those of the first row.
    """
    likes = likes_of(one, other, shift)
    first = lane_begin(shift)
    found = []
    for begin, end in ripe(likes, scale):
        worth = worth_of(likes[begin:end], scale)
        if worth >= told:
            found.append((first + begin, first + end, worth))
    return found


def reaches(one, other, scale, told):
    """The ripe stretches of all lanes of two rows that are worth told at least, ascending."""
    found = []
    for shift in range(1 - len(one), len(other)):
        for begin, end, _ in lane_reaches(one, other, shift, scale, told):
            found.append((shift, begin, end))
    return found

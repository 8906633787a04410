"""The document's sentences, walked through plainly, to hold the program's answers against; and what tests share."""

from itertools import product

from seedreach.shelf import Shelf


def all_texts(signs, most):
    """Every text of none to most of the signs."""
    return ["".join(text) for length in range(most + 1) for text in product(signs, repeat=length)]


def plain_worth(likes, scale):
    """Pair by pair: the gain of each like one, less the loss of each unlike one."""
    return sum(scale[0] if pair == "=" else -scale[1] for pair in likes)


def plain_standing(likes, scale):
    """Every stretch worth more than 0 and more than each shorter stretch within it."""
    worth = {(begin, end): plain_worth(likes[begin:end], scale)
             for begin in range(len(likes)) for end in range(begin + 1, len(likes) + 1)}
    return [(begin, end) for begin, end in sorted(worth)
            if worth[begin, end] > 0
            and all(worth[low, high] < worth[begin, end]
                    for low in range(begin, end) for high in range(low + 1, end + 1)
                    if high - low < end - begin)]


def plain_ripe(likes, scale):
    """Every stretch that stands by itself and lies within no longer one that does."""
    standing = plain_standing(likes, scale)
    return [(begin, end) for begin, end in standing
            if not any(low <= begin and end <= high and high - low > end - begin for low, high in standing)]


def plain_pairs(one, other, shift):
    """The lane's pairs of places, picked out of all pairs that there are."""
    return [(p, q) for p in range(len(one)) for q in range(len(other)) if p + shift == q]


def plain_likes(one, other, shift):
    """The likes of a lane, by its pairs of places."""
    return "".join("=" if one[p] == other[q] else "/" for p, q in plain_pairs(one, other, shift))


def plain_lane_reaches(one, other, shift, scale, told):
    """The ripe stretches of one lane that are worth told at least."""
    places = [p for p, _ in plain_pairs(one, other, shift)]
    likes = plain_likes(one, other, shift)
    return [(shift, places[begin], places[end - 1] + 1) for begin, end in plain_ripe(likes, scale)
            if plain_worth(likes[begin:end], scale) >= told]


def plain_reaches(one, other, scale, told):
    """The ripe stretches of every lane, also of those far out, that are worth told at least."""
    far = len(one) + len(other) + 2
    return sorted(stretch for shift in range(-far, far + 1)
                  for stretch in plain_lane_reaches(one, other, shift, scale, told))


def plain_fits(seed, likes, place):
    """Place by place: each one under the seed is one of the likes, and like where a # is over it."""
    return all(0 <= place + at < len(likes) and (sign == "-" or likes[place + at] == "=")
               for at, sign in enumerate(seed))


def plain_seeded(seeds, likes):
    """Whether a seed fits at any place, also tried where it lies partly outside."""
    return any(plain_fits(seed, likes, place) for seed in seeds for place in range(-1, len(likes) + 1))


def free_texts(seeds, most):
    """Every text of none to most pairs in which no seed fits; shorter ones first, = ahead of /."""
    texts = [""]
    ends = [""]
    for _ in range(most):
        # None is left out: in what stands ahead of the last pair no seed fits either.
        ends = [text + pair for text in ends for pair in "=/" if not plain_seeded(seeds, text + pair)]
        texts += ends
    return texts


def is_ring(seeds, ring, often):
    """Whether no seed fits in the ring, so often in a row."""
    return not plain_seeded(seeds, ring * often)


def plain_windows(rows, seeds):
    """Every seed over every place of every row; kept where it lies within the row."""
    found = []
    for seed_number, seed in enumerate(seeds):
        for number, row in enumerate(rows):
            for place in range(len(row)):
                under = row[place:place + len(seed)]
                if len(under) == len(seed):
                    picked = "".join(sign for sign, over in zip(under, seed) if over == "#")
                    found.append((seed_number, picked, number, place))
    return sorted(found)


def plain_find(rows, row, scale, told):
    """What is reached with each of the rows, over all lanes."""
    found = []
    for number, laid in enumerate(rows):
        for shift, begin, end in plain_reaches(row, laid, scale, told):
            worth = plain_worth(plain_likes(row, laid, shift)[begin - max(0, -shift):end - max(0, -shift)], scale)
            found.append((number, shift, begin, end, worth))
    return sorted(found)


def named_windows(names, seeds):
    """The windows of a row each place of which has a name of its own, by the names under them, gaps too."""
    return {(number, tuple(names[place:place + len(seed)])) for number, seed in enumerate(seeds)
            for place in range(len(names)) if place + len(seed) <= len(names)}


def plain_counts(before, behind, seeds):
    """How many windows there are no more, and how many are new; of rows of names."""
    old, new = named_windows(before, seeds), named_windows(behind, seeds)
    return len(old - new), len(new - old)


def plain_lane(one, other, shift, seeds, scale, told):
    """What lane tells, where told is more than the bar."""
    likes = plain_likes(one, other, shift)
    rows = plain_lane_reaches(one, other, shift, scale, told)
    if rows:
        return ("reaches", rows)
    if plain_seeded(seeds, likes):
        return ("low", max(plain_worth(likes[begin:end], scale) for begin in range(len(likes))
                           for end in range(begin + 1, len(likes) + 1)))
    return ("unseeded", [places[0] for places in plain_under(one, other, shift, seeds)])


def plain_under(one, other, shift, seeds):
    """For each seed, over each place of the lane where it lies within it, all places that are unlike under a #."""
    pairs = plain_pairs(one, other, shift)
    found = []
    for seed in seeds:
        for place in range(len(pairs)):
            under = pairs[place:place + len(seed)]
            if len(under) == len(seed):
                found.append([p for (p, q), sign in zip(under, seed) if sign == "#" and one[p] != other[q]])
    return found


def plain_shows(one, other, shift, seeds, scale, told, paper):
    """Each form by its own sentence, where told is more than the bar."""
    form, claim = paper
    likes = plain_likes(one, other, shift)
    if form == "reaches":
        return claim != [] and claim == plain_lane_reaches(one, other, shift, scale, told)
    if form == "unseeded":
        under = plain_under(one, other, shift, seeds)
        return len(claim) == len(under) and all(claim[k] in under[k] for k in range(len(under)))
    return plain_seeded(seeds, likes) and claim < told and not any(
        plain_worth(likes[begin:end], scale) > claim for begin in range(len(likes))
        for end in range(begin + 1, len(likes) + 1))


def plain_bound(one, other, scale):
    """Gain for each sign of the one that is taken out of the other, as long as there are some."""
    signs = list(other)
    worth = 0
    for sign in one:
        if sign in signs:
            signs.remove(sign)
            worth += scale[0]
    return worth


def plain_three(rows, scale, told):
    """What pairs tells, from a walk over all lanes of each two rows."""
    found, left, rest = [], [], []
    for j in range(len(rows)):
        for i in range(j):
            worths = [stretch[4] for stretch in plain_find([rows[j]], rows[i], scale, told)]
            if worths:
                found.append((i, j, max(worths)))
            elif plain_bound(rows[i], rows[j], scale) < told:
                left.append((i, j, plain_bound(rows[i], rows[j], scale)))
            else:
                rest.append((i, j))
    return sorted(found), sorted(left), sorted(rest)


def shelf_of(rows, seeds, scale=(1, 1), letters="abc"):
    """A shelf on which the rows are laid."""
    shelf = Shelf(letters, scale, seeds)
    for row in rows:
        shelf.lay(row)
    return shelf


class Named:
    """A row each place of which has a name of its own, that no other ever has."""

    def __init__(self, row):
        self.signs = list(row)
        self.names = list(range(len(row)))
        self.next = len(row)

    def do(self, deed, place, sign):
        """Do the deed on signs and names; tell the names as they were."""
        before = list(self.names)
        if deed == "put":
            self.signs.insert(place, sign)
            self.names.insert(place, self.next)
        elif deed == "cut":
            del self.signs[place], self.names[place]
        else:
            self.signs[place] = sign
            self.names[place] = self.next
        self.next += 1
        return before


def do(shelf, deed, number, place, sign):
    """Do a deed on a shelf."""
    return shelf.cut(number, place) if deed == "cut" else getattr(shelf, deed)(number, place, sign)

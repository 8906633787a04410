"""The document's sentences, walked through plainly, to hold the program's answers against."""

from itertools import product


def all_texts(signs, most):
    """Every text of none to most of the signs."""
    return ["".join(text) for length in range(most + 1) for text in product(signs, repeat=length)]


def plain_worth(likes, scale):
    """Pair by pair: the gain of each like one, less the loss of each unlike one."""
    return sum(scale[0] if pair == "=" else -scale[1] for pair in likes)


def plain_standing(likes, scale):
    """Every stretch worth more than 0 and more than each shorter stretch within it."""
    worth = {(begin, end): plain_worth(likes[begin:end], scale)
             for begin in range(len(likes)) for end in range(begin + 1, len(likes) + 1)}
    return [(begin, end) for begin, end in sorted(worth)
            if worth[begin, end] > 0
            and all(worth[low, high] < worth[begin, end]
                    for low in range(begin, end) for high in range(low + 1, end + 1)
                    if high - low < end - begin)]


def plain_ripe(likes, scale):
    """Every stretch that stands by itself and lies within no longer one that does."""
    standing = plain_standing(likes, scale)
    return [(begin, end) for begin, end in standing
            if not any(low <= begin and end <= high and high - low > end - begin for low, high in standing)]


def plain_pairs(one, other, shift):
    """The lane's pairs of places, picked out of all pairs that there are."""
    return [(p, q) for p in range(len(one)) for q in range(len(other)) if p + shift == q]


def plain_likes(one, other, shift):
    """The likes of a lane, by its pairs of places."""
    return "".join("=" if one[p] == other[q] else "/" for p, q in plain_pairs(one, other, shift))


def plain_reaches(one, other, scale, told):
    """The ripe stretches of every lane, also of those far out, that are worth told at least."""
    found = []
    far = len(one) + len(other) + 2
    for shift in range(-far, far + 1):
        places = [p for p, _ in plain_pairs(one, other, shift)]
        likes = plain_likes(one, other, shift)
        found += [(shift, places[begin], places[end - 1] + 1) for begin, end in plain_ripe(likes, scale)
                  if plain_worth(likes[begin:end], scale) >= told]
    return sorted(found)

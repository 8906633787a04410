"""What is told of one lane, and of what is left out of it why (point 11)."""

from seedreach.seeds import bar, is_seeded, need_above, need_seeds, unlike_under
from seedreach.worths import greatest_worth, lane_begin, lane_reaches, likes_of

REACHES = "reaches"
UNSEEDED = "unseeded"
LOW = "low"


def lane(one, other, shift, seeds, scale, told):
    """The ripe stretches of a lane that are worth told at least; else why there are none."""
    need_seeds(seeds)
    need_above(told, bar(seeds, scale))
    rows = [(shift, begin, end) for begin, end, _ in lane_reaches(one, other, shift, scale, told)]
    if rows:
        return (REACHES, rows)
    likes = likes_of(one, other, shift)
    if not is_seeded(seeds, likes):
        return (UNSEEDED, [places[0] for places in unlike_places(seeds, likes, lane_begin(shift))])
    return (LOW, greatest_worth(likes, scale))


def unlike_places(seeds, likes, first):
    """For each seed and each place at which it lies, the places of the unlike pairs under a #, rising.

    The likes begin at place first of the first row.
    """
    return [[first + at for at in unlike_under(seed, likes, place)]
            for seed in seeds for place in range(len(likes) - len(seed) + 1)]

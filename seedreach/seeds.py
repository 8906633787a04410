"""Seeds, where they fit, and the bar: each stretch that is worth more is seeded (points 6 and 7)."""

from seedreach.errors import BadSeed, TooLow
from seedreach.worths import LIKE, UNLIKE, worth_of

PICK = "#"
GAP = "-"
FEWEST_SEEDS = 1
MOST_SEEDS = 3
SHORTEST_SEED = 1
LONGEST_SEED = 8
BAR = "bar"
ENDLESS = "endless"


def need_seeds(seeds):
    """Refuse seeds that are not one to three, or one of which is none."""
    if len(seeds) < FEWEST_SEEDS or len(seeds) > MOST_SEEDS:
        raise BadSeed("seeds are one to three")
    for seed in seeds:
        _need_seed(seed)


def _need_seed(seed):
    """Refuse a seed that is not one to eight signs, # first and last."""
    if len(seed) < SHORTEST_SEED or len(seed) > LONGEST_SEED:
        raise BadSeed("a seed has one to eight signs")
    if seed[0] != PICK or seed[-1] != PICK:
        raise BadSeed("a seed begins and ends with #")
    for sign in seed:
        if sign != PICK and sign != GAP:
            raise BadSeed("a sign of a seed is # or -")


def unlike_under(seed, likes, place):
    """The places of the likes at which an unlike pair is under a # of the seed, rising.

    From place on the seed lies within the likes.
    """
    return [place + at for at, sign in enumerate(seed) if sign == PICK and likes[place + at] == UNLIKE]


def fits(seed, likes, place):
    """Whether the seed lies within the likes from place on, with like pairs alone under its #."""
    if place < 0 or place + len(seed) > len(likes):
        return False
    return not unlike_under(seed, likes, place)


def is_seeded(seeds, likes):
    """Whether some seed fits anywhere in the likes."""
    for seed in seeds:
        for place in range(len(likes) - len(seed) + 1):
            if fits(seed, likes, place):
                return True
    return False


def bar(seeds, scale):
    """The greatest worth of likes in which no seed fits, with the first of the shortest ones; or why there is none.

    Round by round, the best likes to follow each tail (see _tail) may be one pair longer.
    Where that betters none of them, no longer ones ever will. What is bettered has just
    as many pairs as there were rounds, so some time it comes by a tail twice. Without
    what lies between it would be shorter; as it is the best, that ring is worth more than 0.
    """
    steps = _steps(seeds)
    weights = {pair: worth_of(pair, scale) for pair in (LIKE, UNLIKE)}
    best = {tail: (0, "") for tail in steps}
    while True:
        longer = {tail: _best_behind(steps[tail], best, weights) for tail in steps}
        bettered = [tail for tail in steps if longer[tail] != best[tail]]
        if not bettered:
            worth, likes = best[""]
            return (BAR, worth, likes)
        ring = _ring(steps, bettered[0], longer[bettered[0]][1])
        if ring:
            # What leads to the ring is not needed: no seed fits in a part of what none fits in.
            return (ENDLESS, "", ring)
        best = longer


def need_above(told, limit):
    """Refuse what is told unless it is more than the bar; limit is what bar tells."""
    if limit[0] == ENDLESS or told <= limit[1]:
        raise TooLow(limit)


def _steps(seeds):
    """For each tail of likes in which no seed fits: the pairs that may follow, each with the tail then."""
    steps = {}
    waiting = [""]
    while waiting:
        tail = waiting.pop()
        if tail not in steps:
            steps[tail] = _steps_from(tail, seeds)
            waiting.extend(list(steps[tail].values()))
    return steps


def _steps_from(tail, seeds):
    """The pairs behind which no seed ends that fits, = ahead of /, each with the tail then."""
    keep = max([len(seed) for seed in seeds], default=1) - 1
    steps = {}
    for pair in (LIKE, UNLIKE):
        likes = tail + pair
        if not any([fits(seed, likes, len(likes) - len(seed)) for seed in seeds]):
            steps[pair] = _tail(likes, keep)
    return steps


def _tail(likes, keep):
    """Of the last pairs, keep at most, those from the first like one on.

    A seed that is still to end lies on no earlier pair, as it begins with a #.
    """
    return likes[max(0, len(likes) - keep):].lstrip(UNLIKE)


def _best_behind(steps, best, weights):
    """The best (worth, likes) to follow a tail: none at all, or a pair of steps and the best behind it."""
    choices = [(0, "")]
    for pair in steps:
        worth, likes = best[steps[pair]]
        choices.append((weights[pair] + worth, pair + likes))
    # max takes the first one of several, and = stands ahead of / in steps.
    return max(choices, key=lambda choice: (choice[0], -len(choice[1])))


def _ring(steps, tail, likes):
    """The part of the likes, which follow tail, from one tail to where it comes again; empty if none does."""
    seen = {tail: 0}
    for place, pair in enumerate(likes):
        tail = steps[tail][pair]
        if tail in seen:
            return likes[seen[tail]:place + 1]
        seen[tail] = place + 1
    return ""

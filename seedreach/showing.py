"""Whether something told of one lane shows so of it (point 11)."""

from seedreach.papers import LOW, UNSEEDED, lane, unlike_places
from seedreach.worths import lane_begin, likes_of


def shows(one, other, shift, seeds, scale, told, paper):
    """Whether the paper, of one of the forms in which lane tells, shows so of the lane.

    No paper of a form other than lane's own shows so: what is worth told is worth more
    than the bar, so a seed fits there, and of a lane just one of the three forms holds.
    """
    own_form, own = lane(one, other, shift, seeds, scale, told)
    form, claim = paper
    if form != own_form:
        return False
    if form == UNSEEDED:
        return _each_is_under(claim, unlike_places(seeds, likes_of(one, other, shift), lane_begin(shift)))
    if form == LOW:
        return own <= claim < told
    return claim == own


def _each_is_under(places, under):
    """Whether there are as many places as lists of them, each one in the list that is in its turn."""
    return len(places) == len(under) and all([place in spots for place, spots in zip(places, under)])

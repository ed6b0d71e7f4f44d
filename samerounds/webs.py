"""Webs, told by their stars."""

from samerounds.errors import BadEnds, BadNumber, BadStars, TooGreat
from samerounds.sets import is_set, is_whole, joined

MOST_TIES = 12
MOST_PLACES = 24


class Web:
    """A web.

    The field stars is the ascending tuple of its stars; the field sides has
    for each tie the pair of the numbers of the stars it is in, ascending.
    """

    def __init__(self, stars):
        check_stars(stars)
        self.stars = tuple([tuple(star) for star in stars])
        self.sides = sides_of(self.stars)

    def __len__(self):
        return len(self.sides)

    def __eq__(self, other):
        return isinstance(other, Web) and self.stars == other.stars

    def ends(self, tie):
        """The pair of the stars of both ends of a tie, the lesser one first."""
        if not is_whole(tie, len(self.sides)):
            raise BadNumber(tie)
        here, there = self.sides[tie]
        return (self.stars[here], self.stars[there])


def check_stars(stars):
    """Refuse any value that is not the stars of a web."""
    if not isinstance(stars, (list, tuple)):
        raise BadStars(None)
    counts = [0] * MOST_TIES
    before = ()
    for place, star in enumerate(stars):
        if not is_set(star, MOST_TIES) or len(star) == 0 or star < before:
            raise BadStars(place)
        for tie in star:
            if counts[tie] == 2:
                raise BadStars(place)
            counts[tie] += 1
        before = star
    # If no tie lacks, those that occur are the first ones.
    many = MOST_TIES - counts.count(0)
    if 0 in counts[:many]:
        raise BadStars(len(stars))


def sides_of(stars):
    """For each tie the pair of the numbers of its stars, ascending."""
    many = max([star[-1] + 1 for star in stars], default=0)
    places = [[] for tie in range(many)]
    for place, star in enumerate(stars):
        for tie in star:
            places[tie].append(place)
    return tuple([(at[0], at[-1]) for at in places])


def is_pair_of_places(value):
    """Whether any value is a pair of names of places."""
    if not isinstance(value, tuple) or len(value) != 2:
        return False
    return is_whole(value[0], MOST_PLACES) and is_whole(value[1], MOST_PLACES)


def check_ends(ends):
    """Refuse any value that is not the ends of the ties of a web."""
    if not isinstance(ends, (list, tuple)):
        raise BadEnds(None)
    if len(ends) > MOST_TIES:
        raise TooGreat(MOST_TIES)
    for place, value in enumerate(ends):
        if not is_pair_of_places(value):
            raise BadEnds(place)


def web_of(ends):
    """The web whose ties have these pairs of names of places as their ends."""
    check_ends(ends)
    names = sorted({name for pair in ends for name in pair})
    return Web(sorted([star_of(ends, place) for place in names]))


def star_of(ends, name):
    """The ties of the place with this name."""
    return tuple([tie for tie, pair in enumerate(ends) if name in pair])


def pieces(web):
    """An ascending tuple of the pieces of a web, as sets."""
    return joined(tuple(range(len(web))), web.stars)

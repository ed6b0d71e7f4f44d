"""All webs of a few ties."""

from samerounds.errors import BadNumber
from samerounds.rounds import rounds
from samerounds.sets import is_whole
from samerounds.webs import Web

MOST_FOUND = 4


def webs_of(many):
    """A tuple of all webs of so many ties, ascending by their stars."""
    if not is_whole(many, MOST_FOUND + 1):
        raise BadNumber(many)
    found = [()]
    for tie in range(many):
        found = sorted({more for stars in found for more in stars_with_tie(stars, tie)})
    return tuple([Web(stars) for stars in found])


def stars_with_tie(stars, tie):
    """A list of the stars that come of putting in a tie in all ways, perhaps some twice."""
    # Each end may be at a place that is there already, or at a new one.
    places = [*stars, (), ()]
    pairs = [(here, there) for there in range(len(places)) for here in range(there + 1)]
    return [stars_between(places, pair, tie) for pair in pairs]


def stars_between(places, pair, tie):
    """The stars with a tie more at two of the places, told by their numbers, or at one of them."""
    put = [(*star, tie) if at in pair else star for at, star in enumerate(places)]
    return tuple(sorted([star for star in put if len(star) > 0]))


def count_kinds(many):
    """How many webs of so many ties there are of which no two have the same rounds."""
    return len({rounds(web) for web in webs_of(many)})

"""Kin: all webs of one block with the same rounds."""

from samerounds.errors import Apart, BadNumber, TooGreat
from samerounds.rounds import blocks, rounds
from samerounds.sets import is_whole, mask_of
from samerounds.told import stars_with
from samerounds.webs import Web

MOST_KIN = 500
MOST_KIN_TIES = 8


def stars_of_kin(web):
    """An ascending list of the stars of all kin of a web of one block."""
    if len(blocks(web)) != 1:
        raise Apart()
    many = len(web)
    if many > MOST_KIN_TIES:
        raise TooGreat(MOST_KIN_TIES)
    # With the same rounds a web is one block, too, and so it is in one piece.
    told = sorted([mask_of(some) for some in rounds(web)])
    found = stars_with(list(range(many)), told, MOST_KIN + 1)
    if len(found) > MOST_KIN:
        raise TooGreat(MOST_KIN)
    return sorted(found)


def kin(web):
    """A tuple of all kin of a web, ascending by their stars."""
    return tuple([Web(stars) for stars in stars_of_kin(web)])


def count_kin(web):
    """How many kin a web has."""
    return len(stars_of_kin(web))


def kin_at(web, number):
    """The one of the kin of a web with this number, counted from 0."""
    found = stars_of_kin(web)
    if not is_whole(number, len(found)):
        raise BadNumber(number)
    return Web(found[number])


def kin_number(web):
    """The number of a web among its own kin."""
    return stars_of_kin(web).index(web.stars)


def is_solid(web):
    """Whether a web is its only kin."""
    return count_kin(web) == 1

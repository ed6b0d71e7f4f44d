"""Webs with a tie less: one taken out, or shrunk."""

from samerounds.errors import BadNumber
from samerounds.sets import is_whole
from samerounds.webs import Web


def taken_out(web, tie):
    """The web in which a tie is left away at its ends."""
    check_tie(web, tie)
    return web_without(web.stars, tie)


def shrunk(web, tie):
    """The web in which a tie is left away and both its ends become one place."""
    check_tie(web, tie)
    here, there = web.sides[tie]
    kept = [star for at, star in enumerate(web.stars) if at not in (here, there)]
    middle = tuple(sorted(set(web.stars[here] + web.stars[there])))
    return web_without([*kept, middle], tie)


def check_tie(web, tie):
    """Refuse any value that is no tie of a web."""
    if not is_whole(tie, len(web)):
        raise BadNumber(tie)


def web_without(stars, tie):
    """The web with these stars without a tie, those above it numbered by 1 less."""
    less = [tuple([one - 1 if one > tie else one for one in star if one != tie]) for star in stars]
    return Web(sorted([star for star in less if len(star) > 0]))

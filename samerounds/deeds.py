"""Deeds: changes of a web that leave its rounds as they are."""

from samerounds.errors import BadDeed, TooGreat
from samerounds.sets import is_set, sets_of
from samerounds.webs import Web, pieces

MOST_LISTED = 8


def has_form(deed, word, many):
    """Whether any value is a tuple of so many items, the first one this word."""
    return isinstance(deed, tuple) and len(deed) == many and isinstance(deed[0], str) and deed[0] == word


def shared_places(web, some):
    """The numbers of the stars that a set shares."""
    # Two places with the same star are two places, so stars are told by their numbers.
    return [at for at, star in enumerate(web.stars) if 0 < len(inside(star, some)) < len(star)]


def inside(star, some):
    """The ties of a star that are in a set."""
    return tuple([tie for tie in star if tie in some])


def outside(star, some):
    """The ties of a star that are not in a set."""
    return tuple([tie for tie in star if tie not in some])


def merged(star, other):
    """A star with all ties of two others that have none in common."""
    return tuple(sorted([*star, *other]))


def piece_of(web, star):
    """The piece that a star belongs to."""
    return [piece for piece in pieces(web) if star[0] in piece][0]


def can(web, deed):
    """Whether any value is a deed on a web."""
    if has_form(deed, "part", 2):
        return is_set(deed[1], len(web)) and len(shared_places(web, deed[1])) == 1
    if has_form(deed, "twist", 2):
        return is_set(deed[1], len(web)) and len(shared_places(web, deed[1])) == 2
    return has_form(deed, "join", 3) and can_join(web, deed[1], deed[2])


def can_join(web, star, other):
    """Whether any two values are stars of unlike pieces, the first one the lesser."""
    if not is_star(web, star) or not is_star(web, other):
        return False
    return star < other and piece_of(web, star) != piece_of(web, other)


def is_star(web, value):
    """Whether any value is a star of a web."""
    return is_set(value, len(web)) and value in web.stars


def done(web, deed):
    """The web that comes of a deed."""
    if not can(web, deed):
        raise BadDeed(0)
    gone = places_of(web, deed)
    kept = [star for at, star in enumerate(web.stars) if at not in gone]
    return Web(sorted([*kept, *stars_after(web, deed)]))


def places_of(web, deed):
    """The numbers of the stars that a deed replaces."""
    if deed[0] == "join":
        return [web.stars.index(star) for star in deed[1:]]
    return shared_places(web, deed[1])


def stars_after(web, deed):
    """A list of the stars that a deed puts in the place of others."""
    if deed[0] == "join":
        return [merged(deed[1], deed[2])]
    some = deed[1]
    # A part replaces one star, so its first one is its last one.
    stars = [web.stars[at] for at in places_of(web, deed)]
    first, last = stars[0], stars[-1]
    if deed[0] == "part":
        return [inside(first, some), outside(first, some)]
    return [merged(inside(first, some), outside(last, some)), merged(inside(last, some), outside(first, some))]


def back(web, deed):
    """The deed that leads back to a web from the one that comes of a deed on it."""
    if not can(web, deed):
        raise BadDeed(0)
    if deed[0] == "part":
        lesser, greater = sorted(stars_after(web, deed))
        return ("join", lesser, greater)
    if deed[0] == "join":
        return ("part", piece_of(web, deed[1]))
    return ("twist", deed[1])


def webs_on_the_way(web, deeds):
    """A list of the web and of those that come of a row of deeds, one after another."""
    if not isinstance(deeds, (list, tuple)):
        raise BadDeed(None)
    webs = [web]
    for place, deed in enumerate(deeds):
        if not can(webs[-1], deed):
            raise BadDeed(place)
        webs.append(done(webs[-1], deed))
    return webs


def walked(web, deeds):
    """The web that comes of a row of deeds, one after another."""
    return webs_on_the_way(web, deeds)[-1]


def returned(web, deeds):
    """A tuple of the deeds that lead back from where a row of deeds leads."""
    webs = webs_on_the_way(web, deeds)
    backs = [back(before, deed) for before, deed in zip(webs, deeds)]
    return tuple(backs[::-1])


def deeds_of(web):
    """An ascending tuple of all deeds on a web, each once."""
    many = len(web)
    if many > MOST_LISTED:
        raise TooGreat(MOST_LISTED)
    values = [("join", star, other) for star in web.stars for other in web.stars]
    for size in range(many + 1):
        values += [(word, some) for word in ("part", "twist") for some in sets_of(many, size)]
    # A web may have a star twice, so a join may be among them more than once.
    return tuple(sorted({deed for deed in values if can(web, deed)}))

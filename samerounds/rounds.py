"""Rounds, blocks and ranks of webs."""

from samerounds.errors import BadSet, OtherTies
from samerounds.sets import is_set, joined, size_first


def links_of(web, some):
    """For each place that is an end of ties of a set, those ties."""
    links = [tuple([tie for tie in star if tie in some]) for star in web.stars]
    return [link for link in links if len(link) > 0]


def is_loop(web, tie):
    """Whether a tie has one place alone."""
    here, there = web.sides[tie]
    return here == there


def is_round(web, value):
    """Whether any value is a round of a web."""
    if not is_set(value, len(web)):
        return False
    if len(value) == 1:
        return is_loop(web, value[0])
    if any([is_loop(web, tie) for tie in value]):
        return False
    links = links_of(web, value)
    return all([len(link) == 2 for link in links]) and len(joined(value, links)) == 1


def rounds(web):
    """A tuple of all rounds of a web, those with fewer ties first, else ascending."""
    found = []
    for tie in range(len(web)):
        found += rounds_from(web, tie)
    return tuple(sorted(found, key=size_first))


def rounds_from(web, first):
    """A list of the rounds whose least tie is first."""
    start, goal = web.sides[first]
    if start == goal:
        return [(first,)]
    found = []
    # A walk never meets a place twice, so each one that comes to the goal is
    # another round. A loop leads to a place that the walk has met.
    walks = [((first,), (start,))]
    while len(walks) > 0:
        ties, places = walks.pop()
        for tie in range(first + 1, len(web)):
            there = other_side(web.sides[tie], places[-1])
            if there == goal:
                found.append(tuple(sorted([*ties, tie])))
            elif there is not None and there not in places:
                walks.append(((*ties, tie), (*places, there)))
    return found


def other_side(pair, place):
    """The place at the other end of a tie with these two places, or None if place is none of them."""
    here, there = pair
    if place == here:
        return there
    if place == there:
        return here
    return None


def blocks(web):
    """An ascending tuple of the blocks of a web, as sets."""
    return joined(tuple(range(len(web))), rounds(web))


def rank(web, some):
    """The rank of a set of ties of a web."""
    if not is_set(some, len(web)):
        raise BadSet(some)
    links = links_of(web, some)
    return len(links) - len(joined(some, links))


def same_rounds(one, other):
    """Whether two webs have the same rounds."""
    return unlike_round(one, other) is None


def unlike_round(one, other):
    """None if two webs have the same rounds, else a pair of the side and the first round of one alone."""
    if len(one) != len(other):
        raise OtherTies()
    first, second = rounds(one), rounds(other)
    alone = [(size_first(some), 0) for some in first if some not in second]
    alone += [(size_first(some), 1) for some in second if some not in first]
    if len(alone) == 0:
        return None
    (size, some), side = min(alone)
    return (side, some)

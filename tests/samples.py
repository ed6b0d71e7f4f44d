"""Webs and values that several tests look at."""

from itertools import combinations, combinations_with_replacement, product

from samerounds.webs import Web, web_of

RING = web_of([(k, (k + 1) % 12) for k in range(12)])
LIKE_TIES = web_of([(0, 1)] * 12)
LOOPS = web_of([(0, 0)] * 12)
LONE_LOOPS = web_of([(k, k) for k in range(12)])
LONE_TIES = web_of([(2 * k, 2 * k + 1) for k in range(12)])
WHEEL = web_of([(0, k) for k in range(1, 7)] + [(k, k % 6 + 1) for k in range(1, 7)])
GRID = web_of([(near, 3 + far) for near in range(3) for far in range(4)])
DOUBLED = web_of(list(combinations(range(4), 2)) * 2)
MIXED = web_of(
    [(0, 1), (1, 2), (2, 0), (2, 3), (3, 4), (3, 4), (4, 4), (5, 6), (6, 5), (6, 6), (7, 8), (9, 9)]
)
GREAT = [RING, LIKE_TIES, LOOPS, LONE_LOOPS, LONE_TIES, WHEEL, GRID, DOUBLED, MIXED]

# Three ties, with a loop, like ties and unlike pieces; no set of these is one
# of a web with three ties.
NO_SETS = [
    None, 0, True, "", "012", b"", [], [0], [0, 1], {0: True}, {0, 1}, object(), range(2), len,
    (3,), (-1,), (0, 3), (1, 0), (0, 0), (0, 1, 1), (2, 1, 0), (True,), (False,), (False, 1),
    (0, True), (0, None), ("0",), ((0,),), ((0, 1), 2), (0, [1]), (10 ** 999,), (-10 ** 999, 0),
    tuple(range(1000)),
]


class Like:
    """A value that says that it is equal to any other one."""

    def __eq__(self, other):
        return True

    def __ne__(self, other):
        return False

    def __hash__(self):
        return hash("part")


LIKE = Like()


def of(*rows):
    """A web by its stars, each told as a text of figures."""
    return Web([tuple(int(sign) for sign in row) for row in rows])


def all_sets(many):
    """All sets of so many ties, as sets are listed."""
    return [some for size in range(many + 1) for some in combinations(range(many), size)]


def all_webs(many):
    """All webs of so many ties: each end goes to a place that is met already or to the next one."""
    rows = [()]
    for end in range(2 * many):
        rows = [(*row, place) for row in rows for place in range(max(row, default=-1) + 2)]
    found = {web.stars: web for web in (web_of(list(zip(row[::2], row[1::2]))) for row in rows)}
    return [found[stars] for stars in sorted(found)]


def small_webs():
    """Webs of up to three ties in each way to meet, and a choice of those with four and five."""
    webs = []
    for many, names in ((0, 1), (1, 2), (2, 4), (3, 4)):
        pairs = list(combinations_with_replacement(range(names), 2))
        webs += [web_of(ends) for ends in product(pairs, repeat=many)]
    pairs = list(combinations_with_replacement(range(4), 2))
    webs += [web_of(ends) for ends in list(product(pairs, repeat=4))[::37]]
    webs += [web_of(ends) for ends in list(product(pairs, repeat=5))[::307]]
    return webs


def distinct_webs(most=5):
    """The small webs with up to so many ties, each once."""
    found = {web.stars: web for web in small_webs() if len(web) <= most}
    return [found[stars] for stars in sorted(found)]


def names_of_ends(web):
    """For each tie the numbers of the stars that it is in, found from the stars alone."""
    return [[at for at, star in enumerate(web.stars) if tie in star] for tie in range(len(web))]


def plain_pieces(web, some):
    """The pieces of a set of ties, as [12] tells them: walking from tie to tie."""
    ends = names_of_ends(web)
    found = []
    for tie in some:
        if any(tie in piece for piece in found):
            continue
        piece = {tie}
        while True:
            places = {place for one in piece for place in ends[one]}
            more = {one for one in some if places & set(ends[one])}
            if more == piece:
                break
            piece = more
        found.append(tuple(sorted(piece)))
    return tuple(sorted(found))


def plain_is_round(web, some):
    """Whether a set is a round, as [11] tells it."""
    ends = names_of_ends(web)
    if len(some) == 1:
        return len(ends[some[0]]) == 1
    if len(some) == 0 or any(len(ends[tie]) == 1 for tie in some):
        return False
    met = [place for tie in some for place in ends[tie]]
    return all(met.count(place) == 2 for place in met) and len(plain_pieces(web, some)) == 1


def plain_rounds(web):
    """All rounds, by looking at each set."""
    return tuple(some for some in all_sets(len(web)) if plain_is_round(web, some))


def plain_count(web, away=()):
    """How many pieces there are without some ties, a place without ties being a piece, too."""
    near = {place: {place} for place in range(len(web.stars))}
    for tie, places in enumerate(names_of_ends(web)):
        if tie not in away:
            whole = near[places[0]] | near[places[-1]]
            for place in whole:
                near[place] = whole
    return len({min(whole) for whole in near.values()})


def plain_cuts(web):
    """All cuts, as [40] tells them: sets without whose ties there are more pieces, and no lesser such set in them."""
    many = plain_count(web)
    found = []
    for some in all_sets(len(web)):
        if not any(set(one) <= set(some) for one in found) and plain_count(web, some) > many:
            found.append(some)
    return tuple(found)


def plain_trees(web):
    """All tree sets, as [41] tells them: without a round, and none can be added without a round."""
    told = [set(some) for some in plain_rounds(web)]

    def is_free(some):
        return not any(one <= some for one in told)

    found = []
    for some in all_sets(len(web)):
        others = set(range(len(web))) - set(some)
        if is_free(set(some)) and not any(is_free({*some, tie}) for tie in others):
            found.append(some)
    return tuple(sorted(found))


def plain_left(sets, out, shrunk):
    """What is left of told sets, as [15] tells it."""
    left = {frozenset(some) - set(shrunk) for some in sets if not set(some) & set(out)} - {frozenset()}
    least = [tuple(sorted(some)) for some in left if not any(one < some for one in left)]
    return tuple(sorted(least, key=lambda some: (len(some), some)))


def arguments(function):
    """The names of the arguments of a function, in their order."""
    return function.__code__.co_varnames[:function.__code__.co_argcount]


def by_names(function, *values):
    """What a function returns, called by position, and by the names of its arguments in the other order."""
    told = function(*values)
    named = list(zip(arguments(function), values))
    assert function(**dict(named)) == told and function(**dict(reversed(named))) == told
    return told

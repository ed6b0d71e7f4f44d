"""Told sets: the web that has them as its rounds, or what bars it.

Inside this file a told set is the number that stands for it, and told sets are
an ascending list of such numbers, each once.
"""

from samerounds.cuts import cuts
from samerounds.errors import BadName, BadNumber, BadSet, BadStars, TooGreat
from samerounds.rounds import rounds
from samerounds.sets import (
    is_in, is_set, is_whole, is_within, least_of, mask_of, set_of, sets_of, size_first, sums_of,
)
from samerounds.webs import Web, web_of

MOST_TOLD = 10
MOST_SETS = 100
FIVE = ("four", "seven", "other seven", "nine", "ten")

LINES = ((0, 1, 2), (0, 3, 4), (0, 5, 6), (1, 3, 5), (1, 4, 6), (2, 3, 6), (2, 4, 5))
NINE = ((0, 3), (0, 4), (0, 5), (1, 3), (1, 4), (1, 5), (2, 3), (2, 4), (2, 5))
TEN = ((0, 1), (0, 2), (0, 3), (0, 4), (1, 2), (1, 3), (1, 4), (2, 3), (2, 4), (3, 4))


def told_masks(many, sets):
    """The told sets as numbers; any other values are refused."""
    if not is_whole(many, MOST_TOLD + 1):
        raise BadNumber(many)
    if not isinstance(sets, tuple) or not all([is_set(some, many) for some in sets]):
        raise BadSet(sets)
    if len(sets) > MOST_SETS:
        raise TooGreat(MOST_SETS)
    return sorted({mask_of(some) for some in sets})


# The five lots, and what is left of told sets.


def is_name(value):
    """Whether any value is the name of one of the five lots."""
    return isinstance(value, str) and value in FIVE


def five_of(name):
    """A pair of how many ties one of the five lots has and a tuple of its sets."""
    if not is_name(name):
        raise BadName(name)
    if name == "four":
        return (4, tuple(sets_of(4, 3)))
    if name == "nine":
        return (9, cuts(web_of(NINE)))
    if name == "ten":
        return (10, cuts(web_of(TEN)))
    sets = [tuple([tie for tie in range(7) if tie not in line]) for line in LINES]
    if name == "seven":
        sets = [*LINES, *sets]
    return (7, tuple(sorted(sets, key=size_first)))


def left_of(many, sets, out, shrunk):
    """A tuple of what is left of told sets if some ties are taken out and some other ones shrunk."""
    told = told_masks(many, sets)
    if not is_set(out, many):
        raise BadSet(out)
    if not is_set(shrunk, many) or any([tie in out for tie in shrunk]):
        raise BadSet(shrunk)
    left = left_masks(told, mask_of(out), mask_of(shrunk))
    return tuple(sorted([set_of(mask) for mask in left], key=size_first))


def left_masks(told, out, shrunk):
    """What is left of told sets if some ties are taken out and some other ones shrunk."""
    return least_of([(mask | shrunk) ^ shrunk for mask in told if mask & out == 0])


# The webs that have told sets as their rounds.


def web_with(many, sets):
    """A web that has told sets as its rounds, or None if there is none."""
    return web_of_masks(many, told_masks(many, sets))


def web_of_masks(many, told):
    """A web of so many ties that has told sets as its rounds, or None if there is none."""
    found = stars_with(list(range(many)), told, 1)
    return Web(found[0]) if len(found) > 0 else None


def stars_with(ties, told, most):
    """A list of the stars of all webs in one piece of these ties that have told sets as their rounds.

    If there are more than most of them, only so many are told.
    """
    base = base_of(ties, told)
    closing = [tie for tie in ties if not is_in(tie, base)]
    closed = [first_within(told, base | (1 << tie)) for tie in closing]
    # The rounds of a web are the least sums of those that one tie more closes in a
    # tree set. So, where the told sets are such, only these rounds must come right.
    if least_of(sums_of(closed)) != told:
        return []
    paths = [mask & base for mask in closed]
    trees = trees_with(by_paths(base, paths), paths, most)
    return [stars_of_all(stars, closing, paths) for stars in trees]


def stars_of_all(stars, closing, paths):
    """The tuple of the stars that come of closing each of the paths in a tree by a tie."""
    for tie, path in zip(closing, paths):
        stars = closed_by(stars, tie, path)
    # Without any ties there is one place here, and no star.
    return tuple(sorted([set_of(star) for star in stars if star != 0]))


def base_of(ties, told):
    """A greatest set of ties with none of the told sets in it."""
    base = 0
    for tie in ties:
        if first_within(told, base | (1 << tie)) is None:
            base |= 1 << tie
    return base


def first_within(told, mask):
    """The first one of told sets that is in a set, or None."""
    for one in told:
        if is_within(one, mask):
            return one
    return None


def by_paths(base, paths):
    """A list of the ties of a set, those first that are in most paths: these soonest tell that there is no tree."""
    return sorted(set_of(base), key=lambda tie: -len([path for path in paths if is_in(tie, path)]))


def trees_with(ties, paths, most):
    """A list of the stars, as numbers, of the trees of these ties in which each of the paths is one.

    If there are more than most of them, only so many are told.
    """
    # If a tie of a tree is shrunk, its paths stay paths. So each tree is found by
    # putting in one tie after another, and what is no path once will never be one.
    # Shrinking it leads to one tree alone, so none is found twice.
    found = []
    trees = [(0,)]
    while len(trees) > 0 and len(found) < most:
        stars = trees.pop()
        many = len(stars)
        if many > len(ties):
            found.append(stars)
            continue
        now = mask_of(ties[:many])
        met = [path & now for path in paths]
        trees += [more for more in parted(stars, ties[many - 1]) if all([is_path(more, path) for path in met])]
    return found


def parted(stars, tie):
    """A list of the stars of all trees that come of parting one place into two with a tie between them, each once."""
    found = []
    for at, star in enumerate(stars):
        # Of a tree of one tie both places have the same star.
        if star in stars[:at]:
            continue
        # The first tie of the star stays, so no two of them are the same.
        for moved in sums_of([1 << one for one in set_of(star)[1:]]):
            ends = ((star ^ moved) | (1 << tie), moved | (1 << tie))
            found.append((*stars[:at], *stars[at + 1:], *ends))
    return found


def is_path(stars, some):
    """Whether a set of ties of a tree is empty or a path."""
    return some == 0 or len([star for star in stars if is_one(star & some)]) == 2


def is_one(mask):
    """Whether a set has just one tie."""
    return mask != 0 and mask & (mask - 1) == 0


def closed_by(stars, tie, path):
    """The stars with a tie more, from one end of a path to the other, or a loop if the path is empty."""
    if path == 0:
        return (stars[0] | (1 << tie), *stars[1:])
    return tuple([star | (1 << tie) if is_one(star & path) else star for star in stars])


# Papers on told sets.


def paper_of(many, sets):
    """A paper on told sets."""
    told = told_masks(many, sets)
    web = web_of_masks(many, told)
    if web is not None:
        return ("web", web.stars)
    if 0 in told:
        return ("empty",)
    for paper in (within_paper(told), lacking_paper(told)):
        if paper is not None:
            return paper
    return left_paper(many, told)


def within_paper(told):
    """A paper on one told set in another one, or None. None of them is empty."""
    for one in told:
        for other in told:
            if one != other and is_within(one, other):
                return ("within", set_of(one), set_of(other))
    return None


def lacking_paper(told):
    """A paper on two told sets with a tie in both without which there is no third one, or None."""
    for at, one in enumerate(told):
        for other in told[:at]:
            # A tie held in the end is in each of them that has all its ties among those of both.
            held = one & other
            for third in told:
                if is_within(third, one | other):
                    held &= third
            if held != 0:
                return ("lacking", set_of(other), set_of(one), set_of(held)[0])
    return None


def left_paper(many, told):
    """A paper on what is left of told sets that no web has and that none of the other papers is on."""
    out = shrunk = 0
    # Behind this a web comes of taking out, or shrinking, any tie that is still
    # there. So what is left is one of the five lots (Tutte).
    for tie in range(many):
        bit = 1 << tie
        if is_barred(many, told, out | bit, shrunk):
            out |= bit
        elif is_barred(many, told, out, shrunk | bit):
            shrunk |= bit
    ties = others_of(many, out | shrunk)
    left = left_masks(told, out, shrunk)
    for name in FIVE:
        order = order_of(name, ties, left)
        if order is not None:
            return ("left", set_of(out), set_of(shrunk), name, order)
    return None


def others_of(many, mask):
    """A list of the ties below many that are not in a set."""
    return [tie for tie in range(many) if not is_in(tie, mask)]


def is_barred(many, told, out, shrunk):
    """Whether no web has what is left of told sets."""
    return len(stars_with(others_of(many, out | shrunk), left_masks(told, out, shrunk), 1)) == 0


def order_of(name, ties, left):
    """A tuple of these ties, as they stand for those of one of the five lots, or None."""
    many, lot = five_of(name)
    # With as many sets, it is enough that each one of the lot is found among what is left.
    if many != len(ties) or len(lot) != len(left):
        return None
    orders = [()]
    while len(orders) > 0:
        order = orders.pop()
        last = len(order) - 1
        # A set of the lot is looked at when its last tie is there.
        if not all([standing(order, some) in left for some in lot if some[-1] == last]):
            continue
        if len(order) == many:
            return order
        orders += [(*order, tie) for tie in ties if tie not in order]
    return None


def standing(order, some):
    """The set of the ties that stand for those of a set."""
    return mask_of([order[tie] for tie in some])


def is_paper_of(many, sets, value):
    """Whether any value is a paper on told sets."""
    told = told_masks(many, sets)
    if not isinstance(value, tuple) or len(value) == 0 or not isinstance(value[0], str):
        return False
    form = (value[0], len(value))
    if form == ("web", 2):
        return is_web_paper(many, told, value[1])
    if form == ("empty", 1):
        return 0 in told
    if form == ("within", 3):
        return is_within_paper(many, told, value)
    if form == ("lacking", 4):
        return is_lacking_paper(many, told, value)
    return form == ("left", 5) and is_left_paper(many, told, value)


def is_web_paper(many, told, stars):
    """Whether any value is the tuple of the stars of a web that has told sets as its rounds."""
    if not isinstance(stars, tuple):
        return False
    try:
        web = Web(stars)
    except BadStars:
        return False
    return len(web) == many and sorted([mask_of(some) for some in rounds(web)]) == told


def are_two(many, told, one, other):
    """Whether any two values are two different ones of told sets."""
    if not is_set(one, many) or not is_set(other, many):
        return False
    return one != other and mask_of(one) in told and mask_of(other) in told


def is_within_paper(many, told, value):
    """Whether a value of the form of such a paper is one."""
    word, one, other = value
    return are_two(many, told, one, other) and len(one) > 0 and is_within(mask_of(one), mask_of(other))


def is_lacking_paper(many, told, value):
    """Whether a value of the form of such a paper is one."""
    word, one, other, tie = value
    if not are_two(many, told, one, other) or not is_whole(tie, many):
        return False
    if tie not in one or tie not in other:
        return False
    return first_within(told, (mask_of(one) | mask_of(other)) ^ (1 << tie)) is None


def is_left_paper(many, told, value):
    """Whether a value of the form of such a paper is one."""
    word, out, shrunk, name, order = value
    if not is_set(out, many) or not is_set(shrunk, many) or not is_name(name):
        return False
    if not isinstance(order, tuple) or not all([is_whole(tie, many) for tie in order]):
        return False
    if sorted([*out, *shrunk, *order]) != list(range(many)):
        return False
    ties, lot = five_of(name)
    if len(order) != ties:
        return False
    return left_masks(told, mask_of(out), mask_of(shrunk)) == sorted([standing(order, some) for some in lot])

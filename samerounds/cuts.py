"""Cuts and tree sets of webs."""

from samerounds.errors import BadNumber, BadTree
from samerounds.rounds import is_loop, rank
from samerounds.sets import is_set, is_whole, least_of, mask_of, set_of, sets_of, size_first, sums_of


def full_rank(web):
    """The rank of all ties of a web."""
    return rank(web, tuple(range(len(web))))


def parts_more(web, some):
    """Whether there are more pieces without the ties of a set than with them."""
    # With lone places counted, the pieces are as many as the places less the rank.
    others = tuple([tie for tie in range(len(web)) if tie not in some])
    return rank(web, others) < full_rank(web)


def is_cut(web, value):
    """Whether any value is a cut of a web."""
    if not is_set(value, len(web)) or not parts_more(web, value):
        return False
    # What more ties part, fewer may; so it is enough to leave out one at a time.
    return not any([parts_more(web, without(value, tie)) for tie in value])


def without(some, tie):
    """A set without a tie."""
    return tuple([one for one in some if one != tie])


def cuts(web):
    """A tuple of all cuts of a web, those with fewer ties first, else ascending."""
    # Adding the stars of some places, what is in two of them falling away, leaves
    # the ties between these places and the others; the cuts are the least of these.
    stars = [mask_of([tie for tie in star if not is_loop(web, tie)]) for star in web.stars]
    return tuple(sorted([set_of(mask) for mask in least_of(sums_of(stars))], key=size_first))


def is_tree(web, value):
    """Whether any value is a tree set of a web."""
    return is_set(value, len(web)) and rank(web, value) == len(value) == full_rank(web)


def trees(web):
    """An ascending tuple of all tree sets of a web."""
    size = full_rank(web)
    return tuple([some for some in sets_of(len(web), size) if rank(web, some) == size])


def count_trees(web):
    """How many tree sets a web has."""
    return len(trees(web))


def round_of(web, tree, tie):
    """The round in a tree set together with a tie that is not in it."""
    check_tree(web, tree)
    if not is_whole(tie, len(web)) or tie in tree:
        raise BadNumber(tie)
    return tuple([one for one in range(len(web)) if one == tie or is_exchange(web, tree, one, tie)])


def cut_of(web, tree, tie):
    """The cut in a tie of a tree set together with the ties that are not in it."""
    check_tree(web, tree)
    if not is_whole(tie, len(web)) or tie not in tree:
        raise BadNumber(tie)
    return tuple([one for one in range(len(web)) if one == tie or is_exchange(web, tree, tie, one)])


def check_tree(web, tree):
    """Refuse any value that is no tree set of a web."""
    if not is_tree(web, tree):
        raise BadTree(tree)


def is_exchange(web, tree, leaving, coming):
    """Whether a tree set stays one if a tie of it is exchanged for another one, which is not in it."""
    # It is none either if the tie that should leave is not in it, or the other one is.
    return is_tree(web, tuple(sorted([*without(tree, leaving), coming])))

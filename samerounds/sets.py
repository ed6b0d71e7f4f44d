"""What the other files need to look at sets of ties."""


def is_whole(value, many):
    """Whether any value is an integer from 0 to many - 1."""
    return isinstance(value, int) and not isinstance(value, bool) and 0 <= value < many


def is_set(value, many):
    """Whether any value is a set of the ties below many."""
    if not isinstance(value, tuple):
        return False
    if not all([is_whole(tie, many) for tie in value]):
        return False
    return all([tie < above for tie, above in zip(value, value[1:])])


def size_first(some):
    """What sets are listed by: the number of their ties, then their ties."""
    return (len(some), some)


def joined(some, links):
    """An ascending tuple of the sets into which a set falls, ties of one link staying together.

    Each link is a tuple of ties of the set.
    """
    # Each tie is marked with the least tie that it is known to stay with.
    mark = {tie: tie for tie in some}
    for link in links:
        met = [mark[tie] for tie in link]
        least = min(met, default=None)
        mark = {tie: least if mark[tie] in met else mark[tie] for tie in some}
    leaders = [tie for tie in some if mark[tie] == tie]
    return tuple([tuple([tie for tie in some if mark[tie] == leader]) for leader in leaders])


def sets_of(many, size):
    """An ascending list of the sets of this size of the ties below many."""
    found = [()]
    for step in range(size):
        found = [(*some, tie) for some in found for tie in range(many) if tie > max(some, default=-1)]
    return found


def mask_of(some):
    """The number that stands for a set of ties: the bit of each tie of it is 1."""
    return sum([1 << tie for tie in some])


def set_of(mask):
    """The set of ties that a number stands for."""
    return tuple([tie for tie in range(mask.bit_length()) if is_in(tie, mask)])


def is_in(tie, mask):
    """Whether a tie is in the set that a number stands for."""
    return (mask >> tie) & 1 == 1


def is_within(mask, other):
    """Whether all ties of the first one of two sets, told by their numbers, are in the second one."""
    return mask & other == mask


def least_of(masks):
    """An ascending list of those that are not empty and have no other one that is not empty in them."""
    found = []
    # What is in a set has a lesser number than the set, so it comes first; one that
    # comes again is in what is found already.
    for mask in sorted(masks):
        if mask != 0 and not any([is_within(one, mask) for one in found]):
            found.append(mask)
    return found


def sums_of(masks):
    """A list of all that comes of adding some of these sets, where what is in two of them falls away."""
    found = [0]
    for mask in masks:
        if mask not in found:
            found = found + [one ^ mask for one in found]
    return found

"""What the other files need to look at sets of ties."""


def is_whole(value, many):
    """Whether any value is an integer from 0 to many - 1."""
    return isinstance(value, int) and not isinstance(value, bool) and 0 <= value < many


def is_set(value, many):
    """Whether any value is a set of the ties below many."""
    if not isinstance(value, tuple):
        return False
    if not all([is_whole(tie, many) for tie in value]):
        return False
    return all([tie < above for tie, above in zip(value, value[1:])])


def size_first(some):
    """What sets are listed by: the number of their ties, then their ties."""
    return (len(some), some)


def joined(some, links):
    """An ascending tuple of the sets into which a set falls, ties of one link staying together.

    Each link is a tuple of ties of the set.
    """
    # Each tie is marked with the least tie that it is known to stay with.
    mark = {tie: tie for tie in some}
    for link in links:
        met = [mark[tie] for tie in link]
        least = min(met, default=None)
        mark = {tie: least if mark[tie] in met else mark[tie] for tie in some}
    leaders = [tie for tie in some if mark[tie] == tie]
    return tuple([tuple([tie for tie in some if mark[tie] == leader]) for leader in leaders])

"""The errors that the package raises.

The messages do not show the refused values: a value may be anything, also
something that cannot be shown.
"""


class RoundError(ValueError):
    """An argument is refused."""


class BadStars(RoundError):
    """What should be the stars of a web is none; place is the item's number, or None."""

    def __init__(self, place):
        super().__init__("these are not the stars of a web")
        self.place = place


class BadEnds(RoundError):
    """What should be the ends of ties is none; place is the item's number, or None."""

    def __init__(self, place):
        super().__init__("these are not the ends of ties")
        self.place = place


class BadSet(RoundError):
    """The value should be a set of ties and is none that can be taken."""

    def __init__(self, value):
        super().__init__("this is no set of ties that can be taken here")
        self.value = value


class BadDeed(RoundError):
    """What should be a deed is none; place is the item's number, or None."""

    def __init__(self, place):
        super().__init__("this is no deed that can be done here")
        self.place = place


class BadNumber(RoundError):
    """The value should be a number and is none that can be taken."""

    def __init__(self, value):
        super().__init__("this is no number that can be taken here")
        self.value = value


class BadName(RoundError):
    """The value should be the name of one of the five lots and is none."""

    def __init__(self, value):
        super().__init__("this is no name of one of the five lots")
        self.value = value


class OtherTies(RoundError):
    """Two webs have unlike numbers of ties."""

    def __init__(self):
        super().__init__("the webs have unlike numbers of ties")


class Apart(RoundError):
    """A web is not one block."""

    def __init__(self):
        super().__init__("the web is not one block")


class BadTree(RoundError):
    """The value should be a tree set and is none."""

    def __init__(self, value):
        super().__init__("this is no tree set of the web")
        self.value = value


class BadText(RoundError):
    """A text cannot be read; place is the character's number, or None."""

    def __init__(self, place):
        super().__init__("this text cannot be read")
        self.place = place


class NothingLeft(RoundError):
    """There is no deed left to take back, or to do again."""

    def __init__(self):
        super().__init__("no deed is left")


class TooGreat(OverflowError):
    """More than most is wanted."""

    def __init__(self, most):
        super().__init__("more is wanted than can be told")
        self.most = most

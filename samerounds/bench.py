"""Benches: webs that deeds change."""

from samerounds.deeds import done, returned, webs_on_the_way
from samerounds.errors import NothingLeft


class Bench:
    """A web that deeds change.

    The field first is the web as it was at first. All other fields are tuples:
    webs, from the first one to the one that is now; stands, the deeds that stand;
    gone, those that can be done again, the next one last.
    """

    def __init__(self, web):
        self.first = web
        self.webs = (web,)
        self.stands = ()
        self.gone = ()

    def __len__(self):
        return len(self.stands)

    def __eq__(self, other):
        return isinstance(other, Bench) and self.first == other.first and self.stands == other.stands

    @property
    def web(self):
        """The web as it is now."""
        return self.webs[-1]

    def deeds(self):
        """A tuple of the deeds that stand."""
        return self.stands

    def do(self, deed):
        """Do a deed, and return the new web."""
        web = done(self.web, deed)
        self.webs = (*self.webs, web)
        self.stands = (*self.stands, deed)
        self.gone = ()
        return web

    def do_all(self, deeds):
        """Do all deeds of a row, or none, and return the new web."""
        webs = webs_on_the_way(self.web, deeds)
        if len(deeds) > 0:
            self.webs = (*self.webs, *webs[1:])
            self.stands = (*self.stands, *deeds)
            self.gone = ()
        return self.web

    def undo(self):
        """Take back the last deed that stands, and return it."""
        if len(self.stands) == 0:
            raise NothingLeft()
        deed = self.stands[-1]
        self.webs = self.webs[:-1]
        self.stands = self.stands[:-1]
        self.gone = (*self.gone, deed)
        return deed

    def redo(self):
        """Do the last deed again that was taken back, and return it."""
        if len(self.gone) == 0:
            raise NothingLeft()
        deed = self.gone[-1]
        self.webs = (*self.webs, done(self.web, deed))
        self.stands = (*self.stands, deed)
        self.gone = self.gone[:-1]
        return deed

    def way_home(self):
        """A tuple of deeds that lead from the web as it is now to the first one."""
        return returned(self.first, self.stands)

    def trial(self):
        """What a with block is given, behind which the bench is what it was when the block began."""
        return Trial(self)


class Kept:
    """What a bench was when a block began; outer is what was kept for the block around it."""

    def __init__(self, bench, outer):
        self.webs = bench.webs
        self.stands = bench.stands
        self.gone = bench.gone
        self.outer = outer


class Trial:
    """Blocks behind which a bench is what it was when they began."""

    def __init__(self, bench):
        self.bench = bench
        self.kept = None

    def __enter__(self):
        # A block of the same trial may begin within one, so what was kept is not lost.
        self.kept = Kept(self.bench, self.kept)
        return self.bench

    def __exit__(self, kind, value, trace):
        self.bench.webs = self.kept.webs
        self.bench.stands = self.kept.stands
        self.bench.gone = self.kept.gone
        self.kept = self.kept.outer


def tried(bench, function):
    """What a function returns that is called with a bench in a trial."""
    with bench.trial() as same:
        return function(same)

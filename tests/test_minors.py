import time
import unittest
from itertools import combinations

from samerounds import minors as module
from samerounds.cuts import cuts
from samerounds.deeds import can, deeds_of, done
from samerounds.errors import BadNumber
from samerounds.minors import shrunk, taken_out
from samerounds.rounds import is_loop, rounds, same_rounds
from samerounds.webs import Web, pieces, web_of
from samples import (
    GREAT, LIKE, LIKE_TIES, LONE_LOOPS, LONE_TIES, LOOPS, MIXED, RING, all_sets, arguments, by_names, distinct_webs,
    names_of_ends, of, plain_cuts, plain_left, plain_rounds,
)

SMALL = distinct_webs()


def plain_without(web, tie, is_one_place):
    """The web without a tie, told by the names of the places of all others; its ends may become one place."""
    ends = [(places[0], places[-1]) for places in names_of_ends(web)]
    here, there = ends.pop(tie)
    if is_one_place:
        ends = [tuple(here if place == there else place for place in pair) for pair in ends]
    return web_of(ends)


def less(sets, tie):
    """Sets without a tie, those above it numbered by 1 less, as sets are listed."""
    told = [tuple(one - (one > tie) for one in some if one != tie) for some in sets]
    return tuple(sorted(told, key=lambda some: (len(some), some)))


class ByHand(unittest.TestCase):
    def test_taken_out(self):
        for web, tie, told in [
            (of("01", "02", "12"), 0, of("0", "01", "1")),
            (of("01", "02", "12"), 1, of("0", "01", "1")),
            (of("01", "02", "12"), 2, of("0", "01", "1")),
            (of("0", "0"), 0, Web([])),
            (of("0"), 0, Web([])),
            (of("01", "01"), 0, of("0", "0")),
            (of("01"), 1, of("0")),
            (of("0", "1"), 0, of("0")),
            (of("0", "0", "1", "1"), 1, of("0", "0")),
            (of("0", "01", "1"), 0, of("0", "0")),
            (of("013", "02", "123"), 3, of("01", "02", "12")),
            (of("013", "02", "123"), 2, of("0", "012", "12")),
            # Loops, and ties that are alone at a place.
            (of("0", "0123", "1", "2"), 3, of("0", "012", "1", "2")),
            (of("0", "0123", "1", "2"), 0, of("0", "012", "1")),
            (of("0", "012"), 0, of("01")),
            (of("01", "12", "2"), 0, of("0", "01", "1")),
            (of("01", "12", "2"), 1, of("0", "1", "1")),
            (of("01", "12", "2"), 2, of("01", "1")),
            (of("012", "12"), 0, of("01", "01")),
        ]:
            self.assertEqual(by_names(taken_out, web, tie), told, (web.stars, tie))

    def test_shrunk(self):
        for web, tie, told in [
            (of("01", "02", "12"), 0, of("01", "01")),
            (of("01", "02", "12"), 1, of("01", "01")),
            (of("01", "02", "12"), 2, of("01", "01")),
            (of("0", "0"), 0, Web([])),
            (of("0"), 0, Web([])),
            # A tie beside it becomes a loop.
            (of("01", "01"), 0, of("0")),
            (of("01", "01"), 1, of("0")),
            (of("01"), 1, of("0")),
            (of("0", "1"), 0, of("0")),
            (of("0", "0", "1", "1"), 1, of("0", "0")),
            (of("0", "01", "1"), 0, of("0", "0")),
            (of("013", "02", "123"), 3, of("012", "02")),
            (of("013", "02", "123"), 0, of("012", "012")),
            (of("0", "012", "13", "23"), 0, of("01", "02", "12")),
            # Loops, and ties that are alone at a place.
            (of("0", "0123", "1", "2"), 3, of("0", "012", "1", "2")),
            (of("0", "0123", "1", "2"), 0, of("0", "012", "1")),
            (of("0", "012"), 0, of("01")),
            (of("01", "12", "2"), 0, of("0", "01", "1")),
            (of("01", "12", "2"), 1, of("01", "1")),
            (of("01", "12", "2"), 2, of("01", "1")),
            (of("012", "12"), 0, of("01", "01")),
        ]:
            self.assertEqual(by_names(shrunk, web, tie), told, (web.stars, tie))

    def test_twelve_ties(self):
        eleven = tuple(range(11))
        self.assertEqual(taken_out(LIKE_TIES, 4), Web([eleven, eleven]))
        self.assertEqual(shrunk(LIKE_TIES, 4), Web([eleven]))
        for call in (taken_out, shrunk):
            self.assertEqual(call(LOOPS, 11), Web([eleven]))
            self.assertEqual(call(LONE_LOOPS, 5), Web([(k,) for k in eleven]))
            self.assertEqual(call(LONE_TIES, 0), web_of([(2 * k, 2 * k + 1) for k in eleven]))
        self.assertEqual(taken_out(RING, 11), web_of([(k, k + 1) for k in eleven]))
        self.assertEqual(shrunk(RING, 11), web_of([(k, (k + 1) % 11) for k in eleven]))


class AnyTie(unittest.TestCase):
    def test_small_webs(self):
        for web in SMALL:
            stars = web.stars
            for tie in range(len(web)):
                for call, is_one_place in ((taken_out, False), (shrunk, True)):
                    new = call(web, tie)
                    self.assertIs(type(new), Web)
                    self.assertEqual(new, plain_without(web, tie, is_one_place))
                    self.assertEqual(len(new), len(web) - 1)
                    self.assertEqual(call(web, tie), new)
            self.assertEqual(web.stars, stars)

    def test_great_webs(self):
        for web in GREAT:
            for tie in range(12):
                self.assertEqual(taken_out(web, tie), plain_without(web, tie, False))
                self.assertEqual(shrunk(web, tie), plain_without(web, tie, True))

    def test_no_tie(self):
        values = [
            None, True, False, -1, 3, 12, 10 ** 999, -10 ** 999, "0", b"0", "", (), (0,), [0], {}, {0}, object(), Web([]),
            LIKE,
        ]
        for call in (taken_out, shrunk):
            for value in values:
                with self.assertRaises(BadNumber) as caught:
                    call(of("01", "02", "12"), value)
                self.assertIs(caught.exception.value, value)
                with self.assertRaises(BadNumber):
                    call(tie=value, web=Web([]))
            with self.assertRaises(BadNumber) as caught:
                call(Web([]), 0)
            self.assertEqual(caught.exception.value, 0)
            with self.assertRaises(BadNumber):
                call(RING, 12)


class RoundsAndCuts(unittest.TestCase):
    def check(self, web, told, held):
        """What becomes of the rounds told and the cuts held."""
        for tie in range(len(web)):
            out, less_of = taken_out(web, tie), shrunk(web, tie)
            self.assertEqual(rounds(out), less([some for some in told if tie not in some], tie))
            if (tie,) in told:
                self.assertTrue(is_loop(web, tie))
                self.assertEqual(less_of, out)
            else:
                self.assertEqual(rounds(less_of), less(plain_left(told, (), (tie,)), tie))
                self.assertEqual(cuts(less_of), less([some for some in held if tie not in some], tie))
            if (tie,) in held:
                self.assertEqual(cuts(out), less([some for some in held if tie not in some], tie))
            else:
                self.assertEqual(cuts(out), less(plain_left(held, (), (tie,)), tie))

    def test_small_webs(self):
        for web in SMALL:
            self.check(web, plain_rounds(web), plain_cuts(web))

    def test_great_webs(self):
        for web in GREAT:
            self.check(web, rounds(web), cuts(web))

    def test_places_and_pieces(self):
        for web in SMALL:
            for tie in range(len(web)):
                loss = len(web.stars) - len(shrunk(web, tie).stars)
                is_alone = (tie,) in pieces(web)
                self.assertEqual(loss, len(set(names_of_ends(web)[tie])) if is_alone else not is_loop(web, tie))


class SameRoundsStay(unittest.TestCase):
    def test_after_deeds(self):
        webs = [*SMALL[::2], web_of(list(combinations(range(4), 2))), web_of([(k, (k + 1) % 6) for k in range(6)])]
        for web in webs:
            for deed in deeds_of(web)[::2]:
                other = done(web, deed)
                for tie in range(len(web)):
                    self.assertTrue(same_rounds(taken_out(web, tie), taken_out(other, tie)))
                    self.assertTrue(same_rounds(shrunk(web, tie), shrunk(other, tie)))

    def test_all_small_webs_with_the_same_rounds(self):
        firsts = {}
        for web in SMALL:
            first = firsts.setdefault((len(web), rounds(web)), web)
            for tie in range(len(web)):
                self.assertTrue(same_rounds(taken_out(web, tie), taken_out(first, tie)))
                self.assertTrue(same_rounds(shrunk(web, tie), shrunk(first, tie)))

    def test_twelve_ties(self):
        for deed in [("twist", some) for some in all_sets(12)[::5] if can(MIXED, ("twist", some))][:40]:
            other = done(MIXED, deed)
            for tie in range(12):
                self.assertTrue(same_rounds(taken_out(MIXED, tie), taken_out(other, tie)))
                self.assertTrue(same_rounds(shrunk(MIXED, tie), shrunk(other, tie)))


class TheFile(unittest.TestCase):
    def test_where_it_is_defined(self):
        for function in (taken_out, shrunk):
            self.assertEqual(getattr(module, function.__name__).__module__, "samerounds.minors")
            self.assertEqual(arguments(function), ("web", "tie"))

    def test_time(self):
        begun = time.process_time()
        for web in GREAT:
            for tie in range(12):
                taken_out(web, tie)
                shrunk(web, tie)
        self.assertLess(time.process_time() - begun, 5)


if __name__ == "__main__":
    unittest.main()

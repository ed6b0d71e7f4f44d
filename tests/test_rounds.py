import time
import unittest
from itertools import combinations, permutations

from samerounds import rounds as module
from samerounds.errors import BadSet, OtherTies
from samerounds.rounds import blocks, is_round, rank, rounds, same_rounds, unlike_round
from samerounds.webs import Web, web_of
from samples import (
    DOUBLED, GREAT, GRID, LIKE_TIES, LONE_LOOPS, LONE_TIES, LOOPS, MIXED, NO_SETS, RING, WHEEL, all_sets,
    names_of_ends, plain_is_round, plain_pieces, plain_rounds, small_webs,
)

ALL = tuple(range(12))
TRIANGLE = web_of([(0, 1), (1, 2), (2, 0)])


class Rounds(unittest.TestCase):
    def test_by_hand(self):
        for web, told in [
            (Web([]), ()),
            (web_of([(0, 1)]), ()),
            (web_of([(0, 0)]), ((0,),)),
            (web_of([(0, 1), (0, 1)]), ((0, 1),)),
            (TRIANGLE, ((0, 1, 2),)),
            (web_of([(0, 0), (0, 1), (0, 1), (1, 1)]), ((0,), (3,), (1, 2))),
            (web_of([(0, 1), (0, 1), (0, 1)]), ((0, 1), (0, 2), (1, 2))),
            (web_of([(0, 1), (1, 2), (2, 0), (0, 1)]), ((0, 3), (0, 1, 2), (1, 2, 3))),
            # Two rounds that meet at one place are no round together.
            (web_of([(0, 1), (1, 0), (0, 2), (2, 0)]), ((0, 1), (2, 3))),
            (web_of([(0, 1), (1, 0), (2, 3), (3, 2)]), ((0, 1), (2, 3))),
            (MIXED, ((6,), (9,), (11,), (4, 5), (7, 8), (0, 1, 2))),
        ]:
            self.assertEqual(rounds(web), told)
            self.assertEqual(rounds(web=web), told)

    def test_fewer_ties_first(self):
        web = web_of([(0, 1), (1, 2), (2, 0), (5, 6), (6, 5), (7, 7)])
        self.assertEqual(rounds(web), ((5,), (3, 4), (0, 1, 2)))

    def test_square_with_both_ways_across(self):
        web = web_of(list(combinations(range(4), 2)))
        self.assertEqual(
            rounds(web),
            ((0, 1, 3), (0, 2, 4), (1, 2, 5), (3, 4, 5), (0, 1, 4, 5), (0, 2, 3, 5), (1, 2, 3, 4)),
        )

    def test_against_looking_at_each_set(self):
        for web in small_webs():
            self.assertEqual(rounds(web), plain_rounds(web))
            for some in all_sets(len(web)):
                self.assertIs(is_round(web, some), plain_is_round(web, some))

    def test_great_webs_against_looking_at_each_set(self):
        for web in (WHEEL, DOUBLED, MIXED):
            found = rounds(web)
            self.assertEqual(found, tuple(some for some in all_sets(12) if is_round(web, some)))
            self.assertEqual(found, plain_rounds(web))

    def test_great_webs_in_reasonable_time(self):
        # Far more than is needed; a way that tries all orders of ties would not end.
        begun = time.process_time()
        self.assertEqual(rounds(RING), (ALL,))
        self.assertEqual(rounds(LIKE_TIES), tuple(combinations(range(12), 2)))
        self.assertEqual(rounds(LOOPS), tuple((k,) for k in range(12)))
        self.assertEqual(rounds(LONE_LOOPS), rounds(LOOPS))
        self.assertEqual(rounds(LONE_TIES), ())
        self.assertEqual([len(rounds(web)) for web in (WHEEL, GRID, DOUBLED)], [31, 42, 86])
        for web in GREAT:
            blocks(web)
            for size in (0, 1, 6, 11, 12):
                rank(web, ALL[:size])
            self.assertTrue(same_rounds(web, web))
        self.assertLess(time.process_time() - begun, 10)

    def test_is_round_of_any_value(self):
        web = web_of([(0, 1), (1, 0), (2, 2)])
        for value in NO_SETS:
            self.assertIs(is_round(web, value), False, value)
        for value in (web, (web,), Web, rounds(web), ()):
            self.assertIs(is_round(web, value), False)
        self.assertIs(is_round(web, (0, 1)), True)
        self.assertIs(is_round(web, (2,)), True)
        self.assertIs(is_round(web=web, value=(0, 1, 2)), False)
        for value in ((), (0,), None):
            self.assertIs(is_round(Web([]), value), False)
        self.assertIs(is_round(RING, ALL), True)
        self.assertIs(is_round(RING, ALL[:-1]), False)
        self.assertIs(is_round(RING, list(ALL)), False)
        self.assertIs(is_round(LOOPS, (0, 1)), False)


class Blocks(unittest.TestCase):
    def test_by_hand(self):
        for web, told in [
            (Web([]), ()),
            (web_of([(0, 1)]), ((0,),)),
            (web_of([(0, 0)]), ((0,),)),
            (TRIANGLE, ((0, 1, 2),)),
            (web_of([(0, 1), (1, 2), (2, 3)]), ((0,), (1,), (2,))),
            (web_of([(0, 1), (5, 5), (1, 0), (0, 0)]), ((0, 2), (1,), (3,))),
            (web_of([(0, 1), (2, 0), (1, 0), (0, 2)]), ((0, 2), (1, 3))),
            (RING, (ALL,)),
            (LIKE_TIES, (ALL,)),
            (WHEEL, (ALL,)),
            (LOOPS, tuple((k,) for k in range(12))),
            (LONE_TIES, tuple((k,) for k in range(12))),
            (MIXED, ((0, 1, 2), (3,), (4, 5), (6,), (7, 8), (9,), (10,), (11,))),
        ]:
            self.assertEqual(blocks(web), told)
            self.assertEqual(blocks(web=web), told)

    def test_against_the_words(self):
        for web in [*GREAT, *small_webs()]:
            found = blocks(web)
            self.assertEqual(list(found), sorted(found))
            self.assertEqual(sorted(tie for block in found for tie in block), list(range(len(web))))
            told = rounds(web)
            block_of = {tie: block for block in found for tie in block}
            for one, other in combinations(range(len(web)), 2):
                together = any(one in some and other in some for some in told)
                self.assertEqual(together, block_of[one] == block_of[other])

    def test_two_blocks_share_one_place_at_most(self):
        for web in [*GREAT, *small_webs()]:
            ends = names_of_ends(web)
            places = [{place for tie in block for place in ends[tie]} for block in blocks(web)]
            for one, other in combinations(places, 2):
                self.assertLessEqual(len(one & other), 1)

    def test_a_web_falls_apart_into_blocks(self):
        for web in [*GREAT, *small_webs()]:
            for away in range(len(web.stars)):
                parts = parts_without(web, away)
                for block in blocks(web):
                    self.assertEqual(len([part for part in parts if set(part) & set(block)]), 1)


def parts_without(web, away):
    """What the ties fall apart into if they no longer hang together at one place."""
    ends = [set(places) - {away} for places in names_of_ends(web)]
    parts = set()
    for tie in range(len(web)):
        near, more = set(), {tie}
        while more != near:
            near = more
            met = set().union(*[ends[one] for one in near])
            more = near | {one for one, places in enumerate(ends) if places & met}
        parts.add(tuple(sorted(near)))
    return sorted(parts)


class Rank(unittest.TestCase):
    def test_by_hand(self):
        self.assertEqual(rank(Web([]), ()), 0)
        self.assertEqual(rank(RING, ()), 0)
        self.assertEqual(rank(RING, ALL), 11)
        self.assertEqual(rank(RING, ALL[:-1]), 11)
        self.assertEqual(rank(RING, (0, 2, 4)), 3)
        self.assertEqual(rank(LIKE_TIES, ALL), 1)
        self.assertEqual(rank(LIKE_TIES, (5,)), 1)
        self.assertEqual(rank(LOOPS, ALL), 0)
        self.assertEqual(rank(LONE_LOOPS, ALL), 0)
        self.assertEqual(rank(LONE_TIES, ALL), 12)
        self.assertEqual(rank(WHEEL, ALL), 6)
        self.assertEqual(rank(web=MIXED, some=ALL), 2 + 1 + 1 + 1 + 1)
        self.assertEqual(rank(MIXED, (4, 5, 6)), 1)

    def test_against_the_words(self):
        for web in [*small_webs(), MIXED]:
            ends = names_of_ends(web)
            for some in all_sets(len(web))[::1 if len(web) < 6 else 17]:
                places = {place for tie in some for place in ends[tie]}
                self.assertEqual(rank(web, some), len(places) - len(plain_pieces(web, some)))

    def test_refused(self):
        web = web_of([(0, 1), (1, 0), (2, 2)])
        for value in [*NO_SETS, web, (web,), rounds(web)]:
            with self.assertRaises(BadSet) as caught:
                rank(web, value)
            self.assertIs(caught.exception.value, value)
        with self.assertRaises(BadSet) as caught:
            rank(Web([]), (0,))
        self.assertEqual(caught.exception.value, (0,))
        with self.assertRaises(BadSet):
            rank(RING, (11, 12))


class SameRounds(unittest.TestCase):
    def check(self, one, other, told):
        self.assertEqual(unlike_round(one, other), told)
        self.assertIs(same_rounds(one, other), told is None)
        back = None if told is None else (1 - told[0], told[1])
        self.assertEqual(unlike_round(other, one), back)
        self.assertIs(same_rounds(other, one), told is None)

    def test_by_hand(self):
        self.check(Web([]), Web([]), None)
        self.check(web_of([(0, 0)]), web_of([(0, 1)]), (0, (0,)))
        self.check(LOOPS, LONE_LOOPS, None)
        self.check(LOOPS, LONE_TIES, (0, (0,)))
        self.check(RING, LONE_TIES, (0, ALL))
        self.check(RING, LIKE_TIES, (1, (0, 1)))
        self.check(RING, web_of([(k, (k + 1) % 12) for k in (0, 5, 2, 1, 4, 3, 6, 11, 8, 9, 10, 7)]), None)
        # The one round is the same; the first one that is not has fewer ties.
        one = web_of([(0, 0), (0, 1), (1, 2), (2, 0), (3, 4), (3, 4)])
        other = web_of([(0, 0), (0, 1), (0, 1), (2, 3), (3, 4), (4, 2)])
        self.check(one, other, (1, (1, 2)))
        # One with fewer ties comes first, also if another one is less.
        self.check(web_of([(0, 1), (1, 2), (2, 0)]), web_of([(0, 1), (1, 2), (1, 2)]), (1, (1, 2)))
        # Of as many ties the ascending order tells.
        self.check(web_of([(0, 1), (0, 1), (2, 3)]), web_of([(0, 1), (2, 3), (0, 1)]), (0, (0, 1)))

    def test_against_the_words(self):
        webs = [web for web in small_webs() if len(web) == 3][::7]
        for one in webs:
            for other in webs:
                first, second = plain_rounds(one), plain_rounds(other)
                told = None
                for some in all_sets(3):
                    if (some in first) != (some in second):
                        told = (0 if some in first else 1, some)
                        break
                self.check(one, other, told)

    def test_each_ring_of_four(self):
        for order in permutations(range(4)):
            ends = [(order[k], order[(k + 1) % 4]) for k in range(4)]
            self.check(web_of([(0, 1), (1, 2), (2, 3), (3, 0)]), web_of(ends), None)

    def test_unlike_numbers_of_ties(self):
        for one, other in ((RING, TRIANGLE), (Web([]), web_of([(0, 1)])), (web_of([(0, 1)]), web_of([(0, 1)] * 2))):
            for call in (same_rounds, unlike_round):
                with self.assertRaises(OtherTies):
                    call(one, other)
                with self.assertRaises(OtherTies):
                    call(one=other, other=one)

    def test_by_names(self):
        self.assertIs(same_rounds(other=TRIANGLE, one=TRIANGLE), True)
        self.assertEqual(unlike_round(other=web_of([(0, 1)]), one=web_of([(0, 0)])), (0, (0,)))


class TheFile(unittest.TestCase):
    def test_where_it_is_defined(self):
        for name in ("is_round", "rounds", "blocks", "rank", "same_rounds", "unlike_round"):
            self.assertEqual(getattr(module, name).__module__, "samerounds.rounds")


if __name__ == "__main__":
    unittest.main()

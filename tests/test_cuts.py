import time
import unittest
from itertools import combinations

from samerounds import cuts as module
from samerounds.cuts import count_trees, cut_of, cuts, is_cut, is_tree, round_of, trees
from samerounds.deeds import deeds_of, done
from samerounds.errors import BadNumber, BadTree
from samerounds.rounds import rank, rounds
from samerounds.webs import Web, web_of
from samples import (
    DOUBLED, GREAT, GRID, LIKE, LIKE_TIES, LONE_LOOPS, LONE_TIES, LOOPS, MIXED, NO_SETS, RING, WHEEL, all_sets, arguments,
    by_names, distinct_webs, plain_cuts, plain_rounds, plain_trees,
)

ALL = tuple(range(12))
TRIANGLE = web_of([(0, 1), (1, 2), (2, 0)])
FOUR_TIED = web_of(list(combinations(range(4), 2)))
# Two like ties, a loop, a tie alone at one of its places, and a tie apart.
MIX = web_of([(0, 1), (1, 0), (1, 1), (1, 2), (3, 4)])
SMALL = distinct_webs()

NO_TIES = [None, True, False, -1, 12, 10 ** 999, -10 ** 999, "0", b"0", "", (), (0,), [0], {}, {0}, object(), len]


class Cuts(unittest.TestCase):
    def test_by_hand(self):
        for web, told in [
            (Web([]), ()),
            (web_of([(0, 1)]), ((0,),)),
            (web_of([(0, 0)]), ()),
            (web_of([(0, 1), (0, 1)]), ((0, 1),)),
            (TRIANGLE, ((0, 1), (0, 2), (1, 2))),
            (web_of([(0, 1), (1, 2), (2, 0), (0, 1)]), ((1, 2), (0, 1, 3), (0, 2, 3))),
            (web_of([(0, 1), (1, 2), (3, 4)]), ((0,), (1,), (2,))),
            # The two ties at a place between two others are two cuts, no cut together.
            (web_of([(0, 1), (0, 1), (1, 2), (1, 2)]), ((0, 1), (2, 3))),
            (MIX, ((3,), (4,), (0, 1))),
            (LIKE_TIES, (ALL,)),
            (LOOPS, ()),
            (LONE_LOOPS, ()),
            (RING, tuple(combinations(range(12), 2))),
            (LONE_TIES, tuple((k,) for k in range(12))),
        ]:
            self.assertEqual(by_names(cuts, web), told)
            self.assertIs(type(cuts(web)), tuple)

    def test_fewer_ties_first(self):
        self.assertEqual(
            cuts(FOUR_TIED),
            ((0, 1, 2), (0, 3, 4), (1, 3, 5), (2, 4, 5), (0, 1, 4, 5), (0, 2, 3, 5), (1, 2, 3, 4)),
        )
        self.assertEqual(cuts(web_of([(0, 1), (0, 1), (0, 1), (2, 3), (3, 2), (4, 5)])), ((5,), (3, 4), (0, 1, 2)))

    def test_against_the_words(self):
        for web in SMALL:
            told = plain_cuts(web)
            self.assertEqual(cuts(web), told, web.stars)
            for some in all_sets(len(web)):
                self.assertIs(is_cut(web, some), some in told)

    def test_great_webs_against_the_words(self):
        for web in (WHEEL, MIXED):
            self.assertEqual(cuts(web), plain_cuts(web))

    def test_great_webs(self):
        begun = time.process_time()
        self.assertEqual([len(cuts(web)) for web in (DOUBLED, MIXED)], [7, 3 + 1 + 1 + 1 + 1])
        for web in GREAT:
            found = cuts(web)
            self.assertEqual(found, cuts(web))
            self.assertTrue(all([is_cut(web, some) for some in found]))
            self.assertEqual(sum([is_cut(web, some) for some in all_sets(12)[::97]]),
                             len([some for some in all_sets(12)[::97] if some in found]))
            self.assertEqual(list(found), sorted(found, key=lambda some: (len(some), some)))
        self.assertLess(time.process_time() - begun, 20)

    def test_a_tree_of_twelve_ties(self):
        for web in (web_of([(k, k + 1) for k in range(12)]), web_of([(0, k + 1) for k in range(12)])):
            self.assertEqual(cuts(web), tuple((k,) for k in range(12)))

    def test_is_cut_of_any_value(self):
        web = web_of([(0, 1), (0, 1), (2, 2)])
        for value in NO_SETS:
            self.assertIs(is_cut(web, value), False, value)
        for value in (web, (web,), Web, cuts(web), (), (0,), (1,), (2,), (0, 1, 2), (0, 2), [0, 1], (1, 0), (False, 1)):
            self.assertIs(is_cut(web, value), False)
        for value in (LIKE, (LIKE,), (0, LIKE), [LIKE]):
            self.assertIs(is_cut(web, value), False)
            self.assertIs(is_tree(web, value), False)
        self.assertIs(by_names(is_cut, web, (0, 1)), True)
        self.assertIs(is_cut(Web([]), ()), False)
        self.assertIs(is_cut(RING, (3, 11)), True)
        self.assertIs(is_cut(RING, (3, 12)), False)
        self.assertIs(is_cut(LIKE_TIES, ALL), True)
        self.assertIs(is_cut(LIKE_TIES, list(ALL)), False)
        self.assertIs(is_cut(MIX, (0, 1, 3)), False)
        self.assertIs(is_cut(MIX, (3, 4)), False)

    def test_no_cut_meets_a_round_in_just_one_tie(self):
        for web in [*SMALL, *GREAT]:
            for cut in cuts(web):
                for told in rounds(web):
                    self.assertNotEqual(len(set(cut) & set(told)), 1)

    def test_rounds_and_cuts_tell_each_other(self):
        for web in SMALL:
            for some, others in ((rounds(web), cuts(web)), (cuts(web), rounds(web))):
                told = []
                for one in all_sets(len(web))[1:]:
                    if any(set(less) <= set(one) for less in told):
                        continue
                    if all(len(set(one) & set(other)) != 1 for other in others):
                        told.append(one)
                self.assertEqual(some, tuple(told))


class Trees(unittest.TestCase):
    def test_by_hand(self):
        for web, told in [
            (Web([]), ((),)),
            (web_of([(0, 1)]), ((0,),)),
            (web_of([(0, 0)]), ((),)),
            (web_of([(0, 0), (0, 1)]), ((1,),)),
            (TRIANGLE, ((0, 1), (0, 2), (1, 2))),
            (MIX, ((0, 3, 4), (1, 3, 4))),
            (web_of([(0, 1), (1, 2), (3, 4)]), ((0, 1, 2),)),
            (web_of([(0, 1), (0, 1), (2, 3), (2, 3)]), ((0, 2), (0, 3), (1, 2), (1, 3))),
            (LOOPS, ((),)),
            (LIKE_TIES, tuple((k,) for k in range(12))),
            (LONE_TIES, (ALL,)),
            (RING, tuple(combinations(range(12), 11))),
        ]:
            self.assertEqual(by_names(trees, web), told)
            self.assertIs(type(trees(web)), tuple)
            self.assertEqual(by_names(count_trees, web), len(told))

    def test_against_the_words(self):
        for web in SMALL:
            told = plain_trees(web)
            self.assertEqual(trees(web), told)
            self.assertEqual(count_trees(web), len(told))
            self.assertIs(type(count_trees(web)), int)
            for some in all_sets(len(web)):
                self.assertIs(is_tree(web, some), some in told)

    def test_great_webs(self):
        begun = time.process_time()
        # The numbers of Cayley and of his followers: of complete webs, wheels and those of two halves.
        self.assertEqual(count_trees(FOUR_TIED), 16)
        self.assertEqual(count_trees(DOUBLED), 16 * 2 ** 3)
        self.assertEqual(count_trees(WHEEL), 320)
        self.assertEqual(count_trees(GRID), 3 ** 3 * 4 ** 2)
        self.assertEqual(count_trees(web_of(list(combinations(range(5), 2)))), 125)
        self.assertEqual(count_trees(MIXED), 3 * 2 * 2)
        for web in GREAT:
            found = trees(web)
            self.assertEqual(list(found), sorted(found))
            self.assertEqual(len(set(found)), len(found))
            for tree in found[::29]:
                self.assertIs(is_tree(web, tree), True)
            self.assertEqual({len(tree) for tree in found}, {rank(web, ALL)})
        self.assertLess(time.process_time() - begun, 20)

    def test_is_tree_of_any_value(self):
        web = web_of([(0, 1), (1, 2), (2, 2)])
        for value in NO_SETS:
            if value != (0, 1):
                self.assertIs(is_tree(web, value), False, value)
        for value in (web, (web,), Web, trees(web), (), (0,), (1,), (0, 1, 2), (1, 2), [0, 1], (1, 0), (False, 1), (0, True)):
            self.assertIs(is_tree(web, value), False)
        self.assertIs(by_names(is_tree, web, (0, 1)), True)
        self.assertIs(is_tree(Web([]), ()), True)
        for value in (None, [], "", 0, (0,), {}, False):
            self.assertIs(is_tree(Web([]), value), False)
        self.assertIs(is_tree(RING, ALL[1:]), True)
        self.assertIs(is_tree(RING, ALL[2:]), False)
        self.assertIs(is_tree(RING, ALL), False)
        self.assertIs(is_tree(LONE_TIES, ALL), True)
        self.assertIs(is_tree(LONE_TIES, list(ALL)), False)


class RoundOfAndCutOf(unittest.TestCase):
    def check(self, web, tree):
        many = len(web)
        for tie in range(many):
            if tie in tree:
                rest = {tie, *[one for one in range(many) if one not in tree]}
                told = [cut for cut in cuts(web) if set(cut) <= rest]
                self.assertEqual([cut_of(web, tree, tie)], told)
                self.assertTrue(is_cut(web, told[0]))
                with self.assertRaises(BadNumber) as caught:
                    round_of(web, tree, tie)
            else:
                told = [one for one in rounds(web) if set(one) <= {tie, *tree}]
                self.assertEqual([round_of(web, tree, tie)], told)
                with self.assertRaises(BadNumber) as caught:
                    cut_of(web, tree, tie)
            self.assertIs(caught.exception.value, tie)

    def test_by_hand(self):
        self.assertEqual(by_names(round_of, TRIANGLE, (0, 1), 2), (0, 1, 2))
        self.assertEqual(by_names(cut_of, TRIANGLE, (0, 1), 0), (0, 2))
        self.assertEqual(cut_of(TRIANGLE, (0, 1), 1), (1, 2))
        self.assertEqual(round_of(MIX, (0, 3, 4), 1), (0, 1))
        self.assertEqual(round_of(MIX, (0, 3, 4), 2), (2,))
        self.assertEqual(cut_of(MIX, (1, 3, 4), 1), (0, 1))
        self.assertEqual(cut_of(MIX, (1, 3, 4), 3), (3,))
        self.assertEqual(cut_of(MIX, (1, 3, 4), 4), (4,))
        self.assertEqual(round_of(LOOPS, (), 7), (7,))
        self.assertEqual(round_of(RING, ALL[1:], 0), ALL)
        self.assertEqual(cut_of(RING, ALL[1:], 5), (0, 5))
        self.assertEqual(cut_of(LIKE_TIES, (5,), 5), ALL)
        self.assertEqual(round_of(LIKE_TIES, (5,), 2), (2, 5))

    def test_small_webs(self):
        for web in SMALL:
            for tree in trees(web):
                self.check(web, tree)

    def test_great_webs(self):
        for web in GREAT:
            found = trees(web)
            for tree in found[::max(1, len(found) // 3)]:
                self.check(web, tree)

    def test_no_tree_set(self):
        for value in [*NO_SETS, MIX, (MIX,), LIKE, (LIKE, 3, 4), (), (0,), (0, 1, 3, 4), (0, 3), (0, 2, 4), (3, 4), [0, 3, 4], (3, 0, 4), trees(MIX)]:
            # A value that is no tree set is told first, whatever the tie.
            for tie in (0, 1, 2, 3, None, True, 10 ** 999, "0", value):
                for call in (round_of, cut_of):
                    with self.assertRaises(BadTree) as caught:
                        call(MIX, value, tie)
                    self.assertIs(caught.exception.value, value)
                    with self.assertRaises(BadTree):
                        call(tie=tie, tree=value, web=MIX)

    def test_no_tie(self):
        for value in [*NO_TIES, 5, MIX, LIKE]:
            for call in (round_of, cut_of):
                with self.assertRaises(BadNumber) as caught:
                    call(MIX, (0, 3, 4), value)
                self.assertIs(caught.exception.value, value)
                with self.assertRaises(BadNumber):
                    call(tie=value, tree=(0, 3, 4), web=MIX)
        for call in (round_of, cut_of):
            for value in (0, None, ()):
                with self.assertRaises(BadNumber) as caught:
                    call(Web([]), (), value)
                self.assertIs(caught.exception.value, value)


class Exchange(unittest.TestCase):
    def test_a_tie_for_one_of_its_cut(self):
        for web in [*SMALL, WHEEL, DOUBLED, MIXED]:
            found = trees(web)
            for tree in found[::1 if len(web) < 6 else 41]:
                for tie in tree:
                    rest = {one for one in tree if one != tie}
                    told = [one for one in range(len(web)) if one not in rest and is_tree(web, tuple(sorted({*rest, one})))]
                    self.assertEqual(cut_of(web, tree, tie), tuple(told))

    def test_all_tree_sets_come_of_one(self):
        for web in [*SMALL, FOUR_TIED]:
            found = trees(web)
            met, more = {found[0]}, [found[0]]
            while more:
                tree = more.pop()
                for tie in tree:
                    for one in cut_of(web, tree, tie):
                        other = tuple(sorted({*tree, one} - ({tie} - {one})))
                        if other not in met:
                            met.add(other)
                            more.append(other)
            self.assertEqual(tuple(sorted(met)), found)


class SameRounds(unittest.TestCase):
    def test_same_rounds_cuts_and_tree_sets_go_together(self):
        for many in range(6):
            rows = [(rounds(web), cuts(web), trees(web)) for web in SMALL if len(web) == many]
            kinds = set(rows)
            for at in range(3):
                self.assertEqual(len({row[at] for row in rows}), len(kinds))

    def test_deeds_keep_cuts_and_tree_sets(self):
        for web in [*SMALL[::3], web_of([(0, 1), (1, 2), (2, 0), (2, 3), (3, 4), (4, 2), (4, 5), (6, 6)])]:
            told = (cuts(web), trees(web))
            for deed in deeds_of(web)[::3]:
                new = done(web, deed)
                self.assertEqual((cuts(new), trees(new)), told)


class TheFile(unittest.TestCase):
    def test_where_it_is_defined(self):
        for function, names in [
            (is_cut, ("web", "value")), (cuts, ("web",)), (is_tree, ("web", "value")), (trees, ("web",)),
            (count_trees, ("web",)), (round_of, ("web", "tree", "tie")), (cut_of, ("web", "tree", "tie")),
        ]:
            self.assertEqual(getattr(module, function.__name__).__module__, "samerounds.cuts")
            self.assertEqual(arguments(function), names)

    def test_plain_rounds_are_what_is_compared(self):
        for web in SMALL[::5]:
            self.assertEqual(rounds(web), plain_rounds(web))


if __name__ == "__main__":
    unittest.main()

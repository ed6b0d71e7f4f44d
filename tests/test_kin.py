import copy
import time
import unittest
from itertools import combinations, permutations

from samerounds import kin as module
from samerounds.deeds import deeds_of, done
from samerounds.errors import Apart, BadNumber, TooGreat
from samerounds.kin import MOST_KIN, count_kin, is_solid, kin, kin_at, kin_number
from samerounds.rounds import blocks, rounds
from samerounds.webs import Web, web_of
from samples import (
    DOUBLED, GREAT, GRID, LIKE, LIKE_TIES, LONE_TIES, LOOPS, MIXED, RING, WHEEL, all_webs, arguments, by_names, of,
    plain_rounds,
)

FOUR_TIED = list(combinations(range(4), 2))

# The ends of the ties of webs of one block with five to eight ties.
ENDS = [
    [(0, 1)] * 5, [(0, 1)] * 8, [(k, (k + 1) % 5) for k in range(5)], [(k, (k + 1) % 6) for k in range(6)],
    FOUR_TIED, [*FOUR_TIED, (0, 1)], [*FOUR_TIED, (0, 1), (2, 3)], [*FOUR_TIED[1:], (0, 4), (4, 1)],
    [(0, 1), (1, 2), (2, 0), (1, 2), (0, 2)], [(0, 1), (1, 2), (2, 3), (3, 0), (0, 2)],
    [(0, 1), (1, 2), (2, 3), (3, 4), (4, 0), (0, 2), (2, 4)],
    [(0, k) for k in range(1, 5)] + [(k, k % 4 + 1) for k in range(1, 5)],
    [(near, far) for near in (0, 1) for far in (2, 3, 4)], [(near, far) for near in (0, 1) for far in (2, 3, 4, 5)],
    [(0, 1), (1, 2), (2, 3), (3, 0), (0, 1), (1, 2), (2, 3), (3, 0)],
    [(0, 1), (1, 2), (2, 5), (0, 3), (3, 4), (4, 5), (0, 5)], [(0, 1), (1, 2), (2, 5), (0, 3), (3, 4), (4, 5), (0, 5), (1, 4)],
    [(0, 1), (0, 1), (1, 2), (2, 3), (3, 4), (4, 5), (5, 6), (6, 0)],
]


def ring(many):
    return web_of([(k, (k + 1) % many) for k in range(many)])


def come_by_twists(web):
    """All webs that come of a web by twists, as the deeds tell them."""
    met, more = {web.stars}, [web]
    while more:
        now = more.pop()
        for deed in deeds_of(now):
            new = done(now, deed)
            if new.stars not in met:
                met.add(new.stars)
                more.append(new)
    return tuple(Web(stars) for stars in sorted(met))


def is_one_block(web):
    return blocks(web) == (tuple(range(len(web))),) and len(web) > 0


class Kin(unittest.TestCase):
    def test_all_webs_of_one_block_of_up_to_four_ties(self):
        many_blocks = 0
        for many in range(1, 5):
            kinds = {}
            for web in all_webs(many):
                if is_one_block(web):
                    kinds.setdefault(plain_rounds(web), []).append(web)
                else:
                    many_blocks += 1
                    with self.assertRaises(Apart):
                        kin(web)
            for same in kinds.values():
                for web in same:
                    self.assertEqual(kin(web), tuple(same))
        self.assertGreater(many_blocks, 0)

    def test_by_hand(self):
        for web, told in [
            (of("0", "0"), [of("0", "0")]),
            (of("0"), [of("0")]),
            (of("01", "01"), [of("01", "01")]),
            (of("01", "02", "12"), [of("01", "02", "12")]),
            (of("01", "02", "13", "23"), [of("01", "02", "13", "23"), of("01", "03", "12", "23"), of("02", "03", "12", "13")]),
            # A triangle of which one tie is doubled.
            (of("012", "013", "23"), [of("012", "013", "23")]),
            # A tie between two places, and three ways of two ties each between these: the two of each may change over.
            (of("0123", "0456", "14", "25", "36"),
             [of("0123", "0456", "14", "25", "36"), of("0126", "0345", "14", "25", "36"),
              of("0135", "0246", "14", "25", "36"), of("0156", "0234", "14", "25", "36")]),
        ]:
            self.assertEqual(by_names(kin, web), tuple(told))
            self.assertEqual(len(told), count_kin(web))

    def test_webs_of_up_to_eight_ties(self):
        for ends in ENDS:
            web = web_of(ends)
            found = kin(web)
            self.assertIs(type(found), tuple)
            stars = [one.stars for one in found]
            self.assertEqual(stars, sorted(set(stars)))
            self.assertIn(web, found)
            for one in found[::7]:
                self.assertIs(type(one), Web)
                self.assertEqual(rounds(one), rounds(web))
                self.assertTrue(is_one_block(one))
            # Closed under twists, and all of it comes of the web by twists.
            if len(found) <= 60:
                self.assertEqual(found, come_by_twists(web), ends)
                self.assertEqual(kin(found[-1]), found)

    def test_closed_under_twists(self):
        web = web_of(ENDS[-1])
        found = {one.stars for one in kin(web)}
        self.assertEqual(len(found), 360)
        for stars in sorted(found)[::40]:
            for deed in deeds_of(Web(stars)):
                self.assertIn(done(Web(stars), deed).stars, found)

    def test_other_names_of_the_ties(self):
        for ends in ENDS[5:12]:
            many = len(ends)
            for step in (1, 2, 3):
                other = web_of([ends[(5 * k + step) % many] for k in range(many)] if many % 5 else ends[::-1])
                self.assertEqual(count_kin(other), count_kin(web_of(ends)))
                self.assertIn(other, kin(other))

    def test_rings(self):
        numbers = []
        for many in range(3, 8):
            orders = {web_of([(order.index(k), (order.index(k) + 1) % many) for k in range(many)]).stars
                      for order in permutations(range(many))} if many < 7 else None
            found = kin(ring(many))
            numbers.append(len(found))
            if orders is not None:
                self.assertEqual([one.stars for one in found], sorted(orders))
        self.assertEqual(numbers, [1, 3, 12, 60, 360])

    def test_solid_webs(self):
        wheel = web_of([(0, k) for k in range(1, 5)] + [(k, k % 4 + 1) for k in range(1, 5)])
        for web in (of("0"), of("0", "0"), ring(3), web_of(FOUR_TIED), web_of([(0, 1)] * 8), wheel):
            self.assertEqual(kin(web), (web,))
            self.assertIs(is_solid(web), True)
        for web in (ring(4), ring(7), web_of(ENDS[12]), web_of(ENDS[7])):
            self.assertIs(is_solid(web), False)

    def test_nothing_is_changed_and_equal_calls_are_equal(self):
        web = web_of(ENDS[10])
        before = copy.deepcopy(web)
        self.assertEqual(kin(web), kin(web))
        self.assertEqual(kin_at(web, 1), kin_at(web, 1))
        self.assertEqual(web, before)


class Numbers(unittest.TestCase):
    def check(self, web):
        found = kin(web)
        many = len(found)
        self.assertEqual(count_kin(web), many)
        self.assertIs(type(count_kin(web)), int)
        self.assertIs(is_solid(web), many == 1)
        self.assertEqual(found[kin_number(web)], web)
        for number in range(0, many, 1 + many // 20):
            one = kin_at(web, number)
            self.assertIs(type(one), Web)
            self.assertEqual(one, found[number])
            self.assertEqual(kin_number(one), number)
            self.assertIs(type(kin_number(one)), int)
            self.assertEqual(count_kin(one), many)

    def test_small_webs(self):
        for many in range(1, 5):
            for web in all_webs(many):
                if is_one_block(web):
                    self.check(web)

    def test_webs_of_up_to_eight_ties(self):
        for ends in ENDS:
            self.check(web_of(ends))
            self.check(web_of(ends[::-1]))
        self.check(ring(7))

    def test_last_number(self):
        for web in (ring(7), ring(4), ring(3)):
            many = count_kin(web)
            self.assertEqual(kin_at(web, many - 1), kin(web)[-1])
            self.assertEqual(kin_at(web, 0), kin(web)[0])

    def test_no_number(self):
        values = [
            None, True, False, -1, 10 ** 999, -10 ** 999, "0", b"0", "", (), (0,), [0], {}, {0}, object(), len, LIKE, RING,
            ring(4),
        ]
        for web in (of("0"), ring(4), ring(7), web_of(FOUR_TIED)):
            many = count_kin(web)
            for value in [*values, many, many + 1, -many]:
                with self.assertRaises(BadNumber) as caught:
                    kin_at(web, value)
                self.assertIs(caught.exception.value, value)
                with self.assertRaises(BadNumber) as caught:
                    kin_at(number=value, web=web)
                self.assertIs(caught.exception.value, value)

    def test_by_names(self):
        web = ring(5)
        self.assertEqual(by_names(count_kin, web), 12)
        self.assertEqual(by_names(kin_number, web), kin(web).index(web))
        self.assertEqual(by_names(kin_at, web, 7), kin(web)[7])
        self.assertIs(by_names(is_solid, web), False)
        self.assertIs(by_names(is_solid, ring(3)), True)


class Refused(unittest.TestCase):
    CALLS = [
        kin, count_kin, kin_number, is_solid, lambda web: kin_at(web, 0), lambda web: kin_at(web, None),
        lambda web: kin_at(web, True), lambda web: kin_at(web, 10 ** 999), lambda web: kin_at(number="0", web=web),
    ]

    def test_apart_first(self):
        two = [(0, 1), (1, 2), (2, 0), (2, 3), (3, 4), (4, 2)]
        for web in (
            Web([]), of("0", "01", "1"), of("0", "0", "1", "1"), of("0", "1"), of("01"), of("012", "12"), of("01", "02", "12", "3"),
            of("01", "02", "123", "3"), web_of(two), web_of([*two, (0, 5), (5, 6), (6, 0)]), LOOPS, LONE_TIES, MIXED,
            web_of([(k, (k + 1) % 8) for k in range(8)] + [(0, 0)]), web_of([(0, 1)] * 11 + [(1, 2)]),
            web_of([(0, 1)] * 7 + [(2, 3)]), web_of([(0, 1)] * 4 + [(2, 3)] * 4),
        ):
            for call in self.CALLS:
                with self.assertRaises(Apart):
                    call(web)

    def test_then_more_than_eight_ties(self):
        for web in (RING, LIKE_TIES, WHEEL, GRID, DOUBLED, web_of([(0, 1)] * 9), ring(9), ring(10), ring(11)):
            self.assertTrue(is_one_block(web))
            for call in self.CALLS:
                with self.assertRaises(TooGreat) as caught:
                    call(web)
                self.assertEqual(caught.exception.most, 8)

    def test_then_more_than_500_kin(self):
        # Rings of eight ties that follow one another in several orders.
        for step in (1, 3, 5, 7):
            web = web_of([(step * k % 8, (step * k + 1) % 8) for k in range(8)])
            self.assertTrue(is_one_block(web))
            for call in self.CALLS:
                with self.assertRaises(TooGreat) as caught:
                    call(web)
                self.assertEqual(caught.exception.most, 500)

    def test_in_reasonable_time(self):
        begun = time.process_time()
        for web in [ring(7), *[web_of(ends) for ends in ENDS]]:
            for call in (kin, count_kin, kin_number, is_solid):
                call(web)
        for web in [*GREAT, ring(8)]:
            with self.assertRaises((Apart, TooGreat)):
                kin(web)
        self.assertLess(time.process_time() - begun, 10)


class TheFile(unittest.TestCase):
    def test_where_it_is_defined(self):
        for function, names in [
            (kin, ("web",)), (count_kin, ("web",)), (kin_at, ("web", "number")), (kin_number, ("web",)), (is_solid, ("web",)),
        ]:
            self.assertEqual(getattr(module, function.__name__).__module__, "samerounds.kin")
            self.assertEqual(arguments(function), names)
        self.assertIs(type(MOST_KIN), int)
        self.assertEqual(MOST_KIN, 500)


if __name__ == "__main__":
    unittest.main()

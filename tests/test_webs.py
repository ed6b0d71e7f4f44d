import copy
import operator
import unittest
from itertools import permutations

from samerounds import webs
from samerounds.errors import BadEnds, BadNumber, BadStars, TooGreat
from samerounds.webs import MOST_TIES, Web, pieces, web_of
from samples import GREAT, LIKE_TIES, LOOPS, MIXED, RING, names_of_ends, plain_pieces, small_webs

# Webs of each number of ties, with loops and like stars.
STARS = [
    (),
    ((0,),),
    ((0,), (0,)),
    ((0, 1),),
    ((0, 1), (0, 1)),
    ((0,), (0,), (1,), (1,)),
    ((0,), (0, 1), (1,)),
    ((0, 1), (0, 2), (1, 2)),
    ((0,), (1,), (2,)),
    ((0, 1, 2), (0, 1, 3), (2, 3)),
    ((0, 1, 2, 3, 4), (0, 1, 2, 3, 4)),
    ((0, 1, 2, 3, 4, 5), (0, 5), (1, 2), (3, 4)),
    (tuple(range(12)),),
    (tuple(range(12)), tuple(range(12))),
    tuple((k,) for k in range(12)),
    tuple((k // 2,) for k in range(24)),
]

# What is refused, with the place that is told.
BAD_STARS = [
    (None, None),
    (0, None),
    (True, None),
    ("", None),
    ("01", None),
    (b"", None),
    ({}, None),
    ({0: (0,)}, None),
    (set(), None),
    (iter([]), None),
    (range(0), None),
    (object(), None),
    (Web([]), None),
    ([[0]], 0),
    ([0], 0),
    ([None], 0),
    (["0"], 0),
    ([{0}], 0),
    ([Web([])], 0),
    ([()], 0),
    ([(0,), ()], 1),
    ([(True,)], 0),
    ([(False,)], 0),
    ([(0, True)], 0),
    ([(0,), (0, "1")], 1),
    ([(0,), (0, None)], 1),
    ([((0,),)], 0),
    ([(-1,)], 0),
    ([(12,)], 0),
    ([tuple(range(13))], 0),
    ([(10 ** 999,)], 0),
    ([(-10 ** 999, 0)], 0),
    ([(1, 0)], 0),
    ([(0, 0)], 0),
    ([(0, 1, 1)], 0),
    ([(0, 1), (0, 1), (2, 1)], 2),
    ([(0, 1), (0,)], 1),
    ([(1,), (0,)], 1),
    ([(0, 2), (0, 1), (1, 2)], 1),
    ([(0,), (0,), (0,)], 2),
    ([(0,), (0, 1), (0, 1)], 2),
    ([(0, 1), (0, 2), (1, 2), (2,)], 3),
    ([(0,)] * 1000, 2),
    ([(1,)], 1),
    ([(11,)], 1),
    ([(0,), (2,)], 2),
    ([(0, 2), (0, 2)], 2),
    ([(1, 2), (1, 2), (3,)], 3),
    (((0,), (1,), (1,), (3,)), 4),
    # Several faults: the first one is told.
    ([(0,), (0,), (0,), None], 2),
    ([(0,), 5, (0,), (0,), (0,)], 1),
    ([(1, 0), ()], 0),
    ([(1,), (0,), (12,)], 1),
    ([(5,), (5,), (5,)], 2),
    ([(5,), ()], 1),
]


class TheWeb(unittest.TestCase):
    def test_stars_as_list_and_as_tuple(self):
        for stars in STARS:
            many = max([tie + 1 for star in stars for tie in star], default=0)
            for told in (stars, list(stars)):
                web = Web(told)
                self.assertIs(type(web.stars), tuple)
                self.assertEqual(web.stars, stars)
                self.assertEqual(len(web), many)
                self.assertEqual(web, Web(stars=told))

    def test_changes_to_the_list_change_no_web(self):
        stars = [(0, 1), (0, 2), (1, 2)]
        web = Web(stars)
        self.assertEqual(stars, [(0, 1), (0, 2), (1, 2)])
        stars[0] = (0, 9)
        stars.append((5,))
        self.assertEqual(web.stars, ((0, 1), (0, 2), (1, 2)))
        self.assertEqual(web.ends(0), ((0, 1), (0, 2)))
        self.assertEqual(len(web), 3)

    def test_refused(self):
        for stars, place in BAD_STARS:
            with self.assertRaises(BadStars) as caught:
                Web(stars)
            self.assertEqual(caught.exception.place, place, stars)
            self.assertFalse(isinstance(caught.exception.place, bool))

    def test_refused_list_is_left_alone(self):
        stars = [(1, 0), (0,), [2]]
        with self.assertRaises(BadStars):
            Web(stars)
        self.assertEqual(stars, [(1, 0), (0,), [2]])

    def test_each_order_of_stars_but_one(self):
        stars = MIXED.stars
        self.assertEqual(stars, tuple(sorted(stars)))
        triangle = ((0, 1), (0, 2), (1, 2))
        for told in permutations(triangle):
            if told == triangle:
                self.assertEqual(Web(told).stars, triangle)
            else:
                first = 1 if told[1] < told[0] else 2
                with self.assertRaises(BadStars) as caught:
                    Web(told)
                self.assertEqual(caught.exception.place, first)

    def test_ends(self):
        for web in [*GREAT, *small_webs()]:
            for tie, places in enumerate(names_of_ends(web)):
                here, there = web.stars[places[0]], web.stars[places[-1]]
                self.assertEqual(web.ends(tie), (here, there))
                self.assertLessEqual(here, there)
                self.assertIs(type(web.ends(tie=tie)), tuple)

    def test_ends_by_hand(self):
        web = Web([(0, 1, 2), (0, 1, 3), (2,), (4,)])
        self.assertEqual(len(web), 5)
        self.assertEqual(web.ends(0), ((0, 1, 2), (0, 1, 3)))
        self.assertEqual(web.ends(1), ((0, 1, 2), (0, 1, 3)))
        self.assertEqual(web.ends(2), ((0, 1, 2), (2,)))
        self.assertEqual(web.ends(3), ((0, 1, 3), (0, 1, 3)))
        self.assertEqual(web.ends(4), ((4,), (4,)))
        self.assertEqual(LIKE_TIES.ends(11), (tuple(range(12)), tuple(range(12))))

    def test_ends_of_no_tie(self):
        values = [
            None, True, False, -1, 3, 12, 10 ** 999, -10 ** 999, "0", b"0", "", (), (0,), [0], {}, {0},
            object(), Web([]),
        ]
        for value in values:
            with self.assertRaises(BadNumber) as caught:
                Web([(0, 1), (0, 2), (1, 2)]).ends(value)
            self.assertIs(caught.exception.value, value)
        with self.assertRaises(BadNumber) as caught:
            Web([]).ends(tie=0)
        self.assertEqual(caught.exception.value, 0)
        with self.assertRaises(BadNumber):
            RING.ends(12)

    def test_equal(self):
        for stars in STARS:
            for others in STARS:
                self.assertIs(Web(stars) == Web(list(others)), stars == others)
                self.assertIs(Web(stars) != Web(others), stars != others)
        self.assertEqual(copy.deepcopy(MIXED), MIXED)

    def test_equal_to_nothing_else(self):
        for web in (Web([]), Web([(0,)]), RING):
            for other in (None, 0, 1, "", (), [], web.stars, list(web.stars), len(web), object(), Web, BadStars(0)):
                self.assertIs(web == other, False)
                self.assertIs(other == web, False)
                self.assertIs(web != other, True)
                self.assertIs(other != web, True)

    def test_other_operators(self):
        signs = [
            operator.lt, operator.le, operator.gt, operator.ge, operator.add, operator.sub, operator.mul,
            operator.floordiv, operator.truediv, operator.mod, operator.pow, operator.and_, operator.or_,
            operator.xor, operator.lshift, operator.rshift, operator.matmul, divmod,
        ]
        web = Web([(0, 1), (0, 2), (1, 2)])
        for sign in signs:
            for other in (Web([(0,)]), web, 0, 2, None, (), ((0,),), [], [1]):
                with self.assertRaises(TypeError):
                    sign(web, other)
                with self.assertRaises(TypeError):
                    sign(other, web)
        for sign in (operator.neg, operator.pos, operator.invert, abs, int, operator.index):
            with self.assertRaises(TypeError):
                sign(web)
        for other in (0, (0, 1), web):
            with self.assertRaises(TypeError):
                other in web
            with self.assertRaises(TypeError):
                web[other]

    def test_where_it_is_defined(self):
        self.assertEqual(Web.__module__, "samerounds.webs")
        for name in ("__init__", "__len__", "__eq__", "ends"):
            self.assertIn(name, vars(Web))
        for name in ("web_of", "pieces"):
            self.assertEqual(getattr(webs, name).__module__, "samerounds.webs")
        self.assertIs(type(MOST_TIES), int)
        self.assertEqual(MOST_TIES, 12)


class WebOf(unittest.TestCase):
    def test_by_hand(self):
        for ends, stars in [
            ([], ()),
            ([(0, 1)], ((0,), (0,))),
            ([(23, 23)], ((0,),)),
            ([(0, 1), (1, 0)], ((0, 1), (0, 1))),
            ([(0, 0), (0, 0)], ((0, 1),)),
            ([(0, 0), (1, 1)], ((0,), (1,))),
            ([(0, 1), (1, 2), (2, 0)], ((0, 1), (0, 2), (1, 2))),
            ([(5, 7), (7, 7), (7, 9)], ((0,), (0, 1, 2), (2,))),
            ([(0, 1)] * 12, (tuple(range(12)), tuple(range(12)))),
            ([(2 * k, 2 * k + 1) for k in range(12)], tuple((k // 2,) for k in range(24))),
        ]:
            self.assertEqual(web_of(ends).stars, stars)
            self.assertEqual(web_of(ends=tuple(ends)).stars, stars)
            self.assertEqual(len(web_of(ends)), len(ends))
            self.assertEqual(web_of(ends), Web(stars))

    def test_each_tie_has_its_ends(self):
        ends = [(3, 4), (4, 3), (4, 4), (0, 3), (23, 0), (9, 10), (11, 11)]
        web = web_of(ends)
        star = {}
        for tie, pair in enumerate(ends):
            for name in pair:
                star[name] = tuple(at for at, other in enumerate(ends) if name in other)
        self.assertEqual(web.stars, tuple(sorted(star.values())))
        for tie, (one, other) in enumerate(ends):
            self.assertEqual(web.ends(tie), tuple(sorted([star[one], star[other]])))

    def test_other_names_and_order_of_ends(self):
        ends = [(0, 1), (1, 2), (2, 0), (2, 3), (3, 3), (3, 2)]
        web = web_of(ends)
        for names in permutations((0, 7, 22, 23)):
            told = [(names[one], names[other]) for one, other in ends]
            self.assertEqual(web_of(told), web)
            self.assertEqual(web_of([(other, one) for one, other in told]), web)

    def test_all_places(self):
        for web in [*GREAT, *small_webs()]:
            ends = [(places[0], places[-1]) for places in names_of_ends(web)]
            self.assertEqual(web_of(ends), web)

    def test_argument_is_left_alone(self):
        ends = [(1, 0), (0, 2)]
        web = web_of(ends)
        self.assertEqual(ends, [(1, 0), (0, 2)])
        ends.append((5, 5))
        self.assertEqual(web.stars, ((0,), (0, 1), (1,)))

    def test_refused(self):
        for ends, place in [
            (None, None), (0, None), (True, None), ("", None), (b"", None), ({}, None), (set(), None),
            (range(0), None), (iter([]), None), (object(), None), (RING, None), ("x" * 13, None),
            ({k: k for k in range(13)}, None), (range(13), None),
            ([None], 0), ([0], 0), (["01"], 0), ([[0, 1]], 0), ([{0, 1}], 0), ([()], 0), ([(0,)], 0),
            ([(0, 1, 2)], 0), ([(0, 24)], 0), ([(24, 0)], 0), ([(-1, 0)], 0), ([(0, -1)], 0),
            ([(True, 0)], 0), ([(0, False)], 0), ([("0", 1)], 0), ([(0, None)], 0), ([((0,), 1)], 0),
            ([(0, 10 ** 999)], 0), ([(0, 1), (1, 1), (2, [3])], 2), (((0, 1), (0, 1, 2), None), 1),
            ([(0, 1)] * 11 + [(0, 24)], 11),
        ]:
            with self.assertRaises(BadEnds) as caught:
                web_of(ends)
            self.assertEqual(caught.exception.place, place, ends)

    def test_too_great(self):
        for ends in ([(0, 1)] * 13, ((0, 1),) * 13, [None] * 13, [(0, 24)] * 1000):
            with self.assertRaises(TooGreat) as caught:
                web_of(ends)
            self.assertEqual(caught.exception.most, 12)


class Pieces(unittest.TestCase):
    def test_by_hand(self):
        self.assertEqual(pieces(Web([])), ())
        self.assertEqual(pieces(Web([(0,)])), ((0,),))
        self.assertEqual(pieces(web=RING), (tuple(range(12)),))
        self.assertEqual(pieces(LOOPS), (tuple(range(12)),))
        self.assertEqual(pieces(web_of([(k, k) for k in range(3)])), ((0,), (1,), (2,)))
        self.assertEqual(pieces(web_of([(0, 1), (2, 3), (1, 4), (3, 3), (5, 6)])), ((0, 2), (1, 3), (4,)))
        self.assertEqual(pieces(MIXED), ((0, 1, 2, 3, 4, 5, 6), (7, 8, 9), (10,), (11,)))

    def test_against_walking(self):
        for web in [*GREAT, *small_webs()]:
            found = pieces(web)
            self.assertEqual(found, plain_pieces(web, range(len(web))))
            self.assertEqual(sorted(tie for piece in found for tie in piece), list(range(len(web))))
            self.assertEqual(list(found), sorted(found))


if __name__ == "__main__":
    unittest.main()

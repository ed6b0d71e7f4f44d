import copy
import time
import unittest
from itertools import combinations, permutations

from samerounds import deeds as module
from samerounds.deeds import back, can, deeds_of, done, returned, walked
from samerounds.errors import BadDeed, TooGreat
from samerounds.rounds import blocks, rank, rounds
from samerounds.webs import Web, pieces, web_of
from samples import (
    GREAT, GRID, LIKE, LIKE_TIES, LONE_LOOPS, LONE_TIES, LOOPS, MIXED, NO_SETS, RING, WHEEL, all_sets, arguments, by_names,
    distinct_webs, of, plain_pieces, plain_rounds,
)

TRIANGLE = web_of([(0, 1), (1, 2), (2, 0)])
FOUR_TIED = web_of(list(combinations(range(4), 2)))
RING_OF_FOUR = web_of([(0, 1), (1, 2), (2, 3), (3, 0)])
AT_A_PLACE = web_of([(0, 1), (1, 2), (2, 0), (2, 3), (3, 4), (4, 2)])
APART = web_of([(0, 1), (1, 2), (2, 0), (5, 3), (3, 4), (4, 5)])


def shares(star, some):
    """Whether a set shares a star, as [14] tells it."""
    return bool(set(star) & set(some)) and bool(set(star) - set(some))


def plain_done(web, deed):
    """The stars that come of a deed, as [14] tells it, or None if a tuple of this form is no deed."""
    word, *sets = deed
    stars = [set(star) for star in web.stars]
    if word == "join":
        first, second = sets
        if first not in web.stars or second not in web.stars or not first < second:
            return None
        if any(first[0] in piece and second[0] in piece for piece in plain_pieces(web, range(len(web)))):
            return None
        stars.remove(set(first))
        stars.remove(set(second))
        stars.append({*first, *second})
    else:
        some = set(sets[0])
        shared = [star for star in web.stars if shares(star, some)]
        if len(shared) != {"part": 1, "twist": 2}[word]:
            return None
        for star in shared:
            stars.remove(set(star))
        one, other = set(shared[0]), set(shared[-1])
        if word == "part":
            stars += [one & some, one - some]
        else:
            stars += [(one & some) | (other - some), (other & some) | (one - some)]
    return tuple(sorted(tuple(sorted(star)) for star in stars))


def forms_on(web):
    """Tuples of the forms of deeds, of all sets and all pairs of stars."""
    sets = all_sets(len(web))
    found = [(word, some) for word in ("part", "twist") for some in sets]
    return found + [("join", one, other) for one in web.stars for other in web.stars]


def chosen_deeds(web):
    """Some deeds on a web with many ties."""
    found = [deed for deed in forms_on(web) if can(web, deed)]
    return found[::max(1, len(found) // 25)]


# No deed on any web: other kinds, other words, too few and too many items.
NO_DEEDS = [
    None, True, False, 0, 1, 10 ** 999, "", "part", "twist", "join", b"part", [], {}, set(), (), object(), len, Web,
    RING, range(2), {"part": (0,)}, ["part", (0,)], ["twist", (0,)], ["join", (0,), (1,)],
    ("part",), ("twist",), ("join",), ("join", (0,)), ("part", (0,), (1,)), ("twist", (0,), (1,)), ("part", (0,), None),
    ("join", (0,), (1,), (2,)), ("twist", (0,), ()), ("join", ((0,), (1,))), ((0,), "part"), ((0,), (1,), "join"),
    ("", (0,)), ("Part", (0,)), ("TWIST", (0,)), ("parts", (0,)), ("par", (0,)), (" part", (0,)), (b"part", (0,)),
    (None, (0,)), (0, (0,)), (True, (0,)), ((), (0,)), (("part",), (0,)), (["part"], (0,)), (("part", (0,)),),
    ("turn", (0,)), ("join", 0, 1), ("part", 0), ("twist", 1), ("undo", (0,), (1,)), ("", (0,), (1,)),
    (None, (0,), (1,)), (b"join", (0,), (1,)), ("Join", (0,), (1,)), ("twist", (0,), (0,)), ("join", (0,), (0,)),
]


class CanAndDone(unittest.TestCase):
    def refused(self, web, value):
        self.assertIs(can(web, value), False, value)
        for call in (done, back):
            with self.assertRaises(BadDeed) as caught:
                call(web, value)
            self.assertEqual(caught.exception.place, 0)
            self.assertIs(type(caught.exception.place), int)

    def test_all_sets_and_pairs_of_stars_of_small_webs(self):
        for web in distinct_webs():
            stars = web.stars
            for deed in forms_on(web):
                told = plain_done(web, deed)
                self.assertIs(can(web, deed), told is not None, (stars, deed))
                if told is None:
                    self.refused(web, deed)
                else:
                    new = done(web, deed)
                    self.assertIs(type(new), Web)
                    self.assertEqual(new.stars, told, (stars, deed))
                    self.assertEqual(done(web, deed), new)
                self.assertEqual(web.stars, stars)

    def test_great_webs(self):
        for web in GREAT:
            for deed in forms_on(web)[::23] + [("part", piece) for piece in pieces(web)]:
                told = plain_done(web, deed)
                self.assertIs(can(web, deed), told is not None)
                if told is not None:
                    self.assertEqual(done(web, deed).stars, told)

    def test_no_deeds(self):
        parts = web_of([(0, 1), (1, 2), (2, 0), (2, 3), (4, 5), (6, 6)])
        for web in (Web([]), web_of([(0, 1)]), TRIANGLE, parts, RING, LIKE_TIES, LOOPS, LONE_LOOPS, LONE_TIES, MIXED):
            before = copy.deepcopy(web.stars)
            for value in NO_DEEDS:
                self.refused(web, value)
            self.assertEqual(web.stars, before)

    def test_no_sets(self):
        # A loop at one end of a tie, and a tie apart: there is a deed of each word.
        web = web_of([(0, 1), (1, 1), (2, 3)])
        self.assertEqual(web, of("0", "01", "2", "2"))
        for deed in (("part", (0,)), ("join", (0,), (2,)), ("join", (0, 1), (2,))):
            self.assertIs(can(web, deed), True)
        self.assertIs(can(TRIANGLE, ("twist", (0,))), True)
        for value in NO_SETS:
            for deed in (("part", value), ("twist", value), ("join", (0,), value), ("join", value, (2,))):
                self.refused(web, deed)
            self.refused(TRIANGLE, ("twist", value))
        for value in ([0], [0, 1], (1, 0), (0, 0), (False,), (0, True), (0, 1, 1), {0: 1}, "0"):
            for word in ("part", "twist"):
                self.refused(web, (word, value))
            self.refused(web, ("join", value, (2,)))
            self.refused(web, ("join", (0, 1), value))

    def test_values_that_are_like_any(self):
        for value in (LIKE, (LIKE,), (LIKE, (0,)), (LIKE, LIKE), (LIKE, (0, 1), (3, 4)), (LIKE, LIKE, LIKE)):
            self.refused(APART, value)
            self.refused(of("01"), value)
        for deed in (("part", LIKE), ("part", (LIKE,)), ("twist", (LIKE,)), ("join", LIKE, (3, 4)), ("join", (0, 1), (3, LIKE))):
            self.refused(APART, deed)
            self.refused(of("01"), deed)

    def test_ties_that_the_web_has_not(self):
        web = web_of([(0, 1), (1, 2)])
        self.assertIs(can(web, ("part", (0,))), True)
        for some in ((0, 2), (2,), (0, 12), (-1, 0), (0, 10 ** 999)):
            self.refused(web, ("part", some))
            self.refused(TRIANGLE, ("twist", (0, 3)))
            self.refused(web, ("twist", some))

    def test_joins_that_are_none(self):
        # Stars that the web has not, two of one piece, one twice, the greater one first, ties that are no star.
        for deed in (
            ("join", (0,), (3, 4)), ("join", (0, 1), (3,)), ("join", (0, 1, 2), (3, 4)), ("join", (), (3, 4)),
            ("join", (0, 1), ()), ("join", (0, 1), (0, 2)), ("join", (0, 2), (1, 2)), ("join", (3, 4), (3, 5)),
            ("join", (0, 1), (0, 1)), ("join", (3, 4), (0, 1)), ("join", (4, 5), (1, 2)),
            ("join", (0, 1), (3, 4, 5)), ("join", (0, 1), (6, 7)), ("join", [0, 1], (3, 4)), ("join", (0, 1), [3, 4]),
            ("join", (1, 0), (3, 4)), ("join", (0, 1), (4, 3)), ("join", (False, 1), (3, 4)), ("join", (0, True), (3, 4)),
            ("part", (0, 1), (3, 4)), ("join", ((0, 1), (3, 4))), ("join", (0, 1), (3, 4), ()),
        ):
            self.refused(APART, deed)
        self.assertEqual(done(APART, ("join", (0, 1), (3, 4))), of("0134", "02", "12", "35", "45"))
        self.refused(of("0", "0"), ("join", (0,), (0,)))
        self.refused(of("0", "01", "1"), ("join", (0,), (1,)))
        self.assertEqual(done(of("0", "0", "1", "1"), ("join", (0,), (1,))), of("0", "01", "1"))
        self.refused(of("0", "0", "1", "1"), ("join", (1,), (0,)))

    def test_by_names_and_equal_calls(self):
        web = copy.deepcopy(APART)
        self.assertIs(by_names(can, web, ("join", (0, 1), (3, 4))), True)
        self.assertIs(by_names(can, web, ("part", (0,))), False)
        self.assertEqual(by_names(done, AT_A_PLACE, ("part", (0, 1, 2))), APART)
        self.assertEqual(by_names(back, AT_A_PLACE, ("part", (0, 1, 2))), ("join", (1, 2), (3, 5)))
        self.assertEqual(by_names(walked, AT_A_PLACE, [("part", (0, 1, 2))]), APART)
        self.assertEqual(by_names(returned, AT_A_PLACE, [("part", (0, 1, 2))]), (("join", (1, 2), (3, 5)),))
        self.assertEqual(by_names(deeds_of, of("0", "0")), ())
        self.assertEqual(web, APART)
        for function, names in [
            (can, ("web", "deed")), (done, ("web", "deed")), (walked, ("web", "deeds")), (deeds_of, ("web",)),
            (back, ("web", "deed")), (returned, ("web", "deeds")),
        ]:
            self.assertEqual(arguments(function), names)
            self.assertEqual(getattr(module, function.__name__).__module__, "samerounds.deeds")


class WebsByHand(unittest.TestCase):
    def test_four_places_all_tied(self):
        # Only a tie alone, or all others, shares just two stars; the twist changes nothing.
        alone = [(tie,) for tie in range(6)]
        others = [tuple(one for one in range(6) if one != tie) for tie in range(6)]
        self.assertEqual(deeds_of(FOUR_TIED), tuple(("twist", some) for some in sorted(alone + others)))
        for deed in deeds_of(FOUR_TIED):
            self.assertEqual(done(FOUR_TIED, deed), FOUR_TIED)

    def test_ring(self):
        self.assertEqual(RING_OF_FOUR, of("01", "03", "12", "23"))
        self.assertEqual(done(RING_OF_FOUR, ("twist", (0, 1))), of("01", "02", "13", "23"))
        self.assertEqual(done(RING_OF_FOUR, ("twist", (2, 3))), of("01", "02", "13", "23"))
        self.assertEqual(done(RING_OF_FOUR, ("twist", (0, 3))), of("02", "03", "12", "13"))
        self.assertEqual(done(RING_OF_FOUR, ("twist", (1, 2))), of("02", "03", "12", "13"))
        self.assertIs(can(RING_OF_FOUR, ("twist", (0, 2))), False)
        self.assertIs(can(RING_OF_FOUR, ("part", (0, 1))), False)
        # All rings of four come of it by twists.
        met = {RING_OF_FOUR.stars}
        for step in range(3):
            met |= {done(Web(stars), deed).stars for stars in sorted(met) for deed in deeds_of(Web(stars))}
        rings = {web_of([(order.index(k), (order.index(k) + 1) % 4) for k in range(4)]).stars
                 for order in permutations(range(4))}
        self.assertEqual(met, rings)
        self.assertEqual(len(rings), 3)

    def test_like_ties(self):
        web = web_of([(0, 1)] * 3)
        some = [some for some in all_sets(3) if 0 < len(some) < 3]
        self.assertEqual(deeds_of(web), tuple(("twist", one) for one in sorted(some)))
        for deed in deeds_of(web):
            self.assertEqual(done(web, deed), web)
        self.assertEqual(done(LIKE_TIES, ("twist", (0, 5, 11))), LIKE_TIES)

    def test_two_triangles(self):
        self.assertEqual(AT_A_PLACE, of("01", "02", "1235", "34", "45"))
        self.assertEqual(APART, of("01", "02", "12", "34", "35", "45"))
        for some in ((0, 1, 2), (3, 4, 5)):
            self.assertEqual(done(AT_A_PLACE, ("part", some)), APART)
        self.assertEqual(back(AT_A_PLACE, ("part", (3, 4, 5))), ("join", (1, 2), (3, 5)))
        self.assertEqual(done(APART, ("join", (1, 2), (3, 5))), AT_A_PLACE)
        self.assertEqual(back(APART, ("join", (1, 2), (3, 5))), ("part", (0, 1, 2)))
        self.assertEqual(done(APART, ("join", (0, 1), (4, 5))), of("0145", "02", "12", "34", "35"))
        words = [deed[0] for deed in deeds_of(APART)]
        self.assertEqual(words.count("join"), 9)
        self.assertEqual(words.count("part"), 0)
        words = [deed for deed in deeds_of(AT_A_PLACE) if deed[0] != "twist"]
        self.assertEqual(words, [("part", (0, 1, 2)), ("part", (3, 4, 5))])
        # A twist of a tie with the other triangle: this goes over to the other end of the tie.
        self.assertIs(can(AT_A_PLACE, ("twist", (0, 3, 4, 5))), False)
        self.assertEqual(done(AT_A_PLACE, ("twist", (1, 3, 4, 5))), of("0135", "02", "12", "34", "45"))
        self.assertEqual(done(AT_A_PLACE, ("twist", (0, 2))), of("0135", "02", "12", "34", "45"))
        self.assertIs(can(APART, ("twist", (0, 3))), False)

    def test_twist_over_two_pieces(self):
        # Two ties in a row, twice; the set has one of each, and the twist lets them change over.
        web = of("0", "01", "1", "2", "23", "3")
        self.assertEqual(done(web, ("twist", (0, 2))), of("0", "03", "1", "12", "2", "3"))
        self.assertEqual(done(web, ("twist", (1, 2))), of("0", "02", "1", "13", "2", "3"))
        self.assertEqual(len(pieces(done(web, ("twist", (0, 2))))), 2)

    def test_loops(self):
        self.assertEqual(done(of("01"), ("part", (0,))), of("0", "1"))
        self.assertEqual(done(of("01"), ("part", (1,))), of("0", "1"))
        self.assertEqual(back(of("01"), ("part", (1,))), ("join", (0,), (1,)))
        self.assertEqual(done(of("012", "12"), ("part", (0,))), of("0", "12", "12"))
        self.assertEqual(done(of("012", "12"), ("twist", (0, 1))), of("012", "12"))
        # In a triangle a loop goes over to another place.
        self.assertEqual(done(of("013", "12", "23"), ("twist", (0, 1))), of("012", "13", "23"))

    def test_webs_that_cannot_be_changed(self):
        self.assertEqual(deeds_of(Web([])), ())
        self.assertEqual(deeds_of(of("0", "0")), ())
        self.assertEqual(deeds_of(of("0")), ())
        self.assertEqual(deeds_of(of("0", "1")), (("join", (0,), (1,)),))
        # Each tie of these webs alone shares two stars, no set of two does.
        for web in (TRIANGLE, FOUR_TIED):
            self.assertEqual({done(web, deed).stars for deed in deeds_of(web)}, {web.stars})

    def test_a_set_with_a_whole_piece_more(self):
        web = web_of([(0, 1), (1, 2), (3, 4)])
        self.assertEqual(web, of("0", "01", "1", "2", "2"))
        for some in ((0,), (0, 2), (1,), (1, 2)):
            self.assertEqual(done(web, ("part", some)), of("0", "0", "1", "1", "2", "2"))


class WhatStays(unittest.TestCase):
    def check(self, web, deed):
        new = done(web, deed)
        many = len(web)
        self.assertEqual(len(new), many)
        self.assertEqual(rounds(new), rounds(web))
        self.assertEqual(blocks(new), blocks(web))
        places = len(new.stars) - len(web.stars)
        apart = len(pieces(new)) - len(pieces(web))
        more = {"part": 1, "twist": 0, "join": -1}[deed[0]]
        self.assertEqual((places, apart), (more, more))
        if deed[0] == "twist":
            others = tuple(tie for tie in range(many) if tie not in deed[1])
            self.assertEqual(done(web, ("twist", others)), new)
        return new

    def test_small_webs(self):
        for web in distinct_webs(4):
            for deed in deeds_of(web):
                new = self.check(web, deed)
                self.assertEqual(plain_rounds(new), plain_rounds(web))
                for some in all_sets(len(web)):
                    self.assertEqual(rank(new, some), rank(web, some))

    def test_great_webs(self):
        for web in GREAT:
            for deed in chosen_deeds(web):
                new = self.check(web, deed)
                for some in all_sets(12)[::331]:
                    self.assertEqual(rank(new, some), rank(web, some))


class Back(unittest.TestCase):
    def check(self, web, deed):
        new, home = done(web, deed), back(web, deed)
        self.assertIs(can(new, home), True)
        self.assertEqual(done(new, home), web)
        self.assertIs(type(home), tuple)
        if deed[0] == "twist":
            self.assertEqual(home, deed)
        elif deed[0] == "part":
            come = list(new.stars)
            for star in web.stars:
                if star in come:
                    come.remove(star)
            self.assertEqual(home, ("join", *sorted(come)))
        else:
            piece = [piece for piece in pieces(web) if deed[1][0] in piece]
            self.assertEqual(home, ("part", piece[0]))

    def test_small_webs(self):
        for web in distinct_webs():
            for deed in deeds_of(web):
                self.check(web, deed)

    def test_great_webs(self):
        for web in GREAT:
            for deed in chosen_deeds(web):
                self.check(web, deed)


class Walked(unittest.TestCase):
    ROW = [("part", (0, 1, 2)), ("join", (0, 1), (4, 5)), ("twist", (3,)), ("part", (3, 4, 5)), ("join", (1, 2), (3, 4))]

    def test_rows(self):
        web = AT_A_PLACE
        stars = [
            AT_A_PLACE, APART, of("0145", "02", "12", "34", "35"), of("0145", "02", "12", "34", "35"), APART,
            of("01", "02", "1234", "35", "45"),
        ]
        for many in range(len(self.ROW) + 1):
            for row in (self.ROW[:many], tuple(self.ROW[:many])):
                before = copy.deepcopy(row)
                self.assertEqual(walked(web, row), stars[many])
                homes = returned(web, row)
                self.assertIs(type(homes), tuple)
                self.assertEqual(homes, tuple(back(stars[k], row[k]) for k in range(many - 1, -1, -1)))
                self.assertEqual(walked(stars[many], homes), web)
                self.assertEqual(row, before)
                self.assertIs(type(row), type(before))

    def test_empty_row(self):
        for web in (Web([]), RING, MIXED):
            for row in ([], ()):
                self.assertEqual(walked(web, row), web)
                self.assertEqual(returned(web, row), ())

    def test_long_rows(self):
        for web in [*GREAT, APART, FOUR_TIED]:
            row, now = [], web
            for step in range(30):
                deeds = [deed for deed in chosen_deeds(now) if deed not in row] if step % 6 == 0 else deeds
                deeds = [deed for deed in deeds if can(now, deed)]
                if deeds:
                    row.append(deeds[step * 7 % len(deeds)])
                    now = done(now, row[-1])
            self.assertEqual(walked(web, row), now)
            self.assertEqual(rounds(now), rounds(web))
            homes = returned(web, tuple(row))
            self.assertEqual(len(homes), len(row))
            self.assertEqual(walked(now, homes), web)

    def test_no_row(self):
        for value in (
            None, True, 0, 1, "", "part", b"", {}, set(), {("part", (0,)): 1}, object(), range(0), iter([]), RING,
            {("part", (0, 1, 2))}, len, 10 ** 999,
        ):
            for call in (walked, returned):
                with self.assertRaises(BadDeed) as caught:
                    call(AT_A_PLACE, value)
                self.assertIs(caught.exception.place, None)

    def test_first_item_that_is_no_deed(self):
        row = self.ROW
        for deeds, place in [
            ([None], 0), (("part", (0, 1, 2)), 0), ([("part", (0, 1))], 0), (["part"], 0), ([[]], 0), ([()], 0),
            ([row[0], row[0]], 1), ([row[1]], 0), ([row[0], row[1], row[1]], 2), ([row[0], None, 5], 1),
            ([*row, row[4]], 5), ([*row, ("part", (0, 1, 2)), ("join", (0, 1), (3, 5)), 7], 7),
            ([row[0], ["join", (0, 1), (4, 5)]], 1), (row[1:], 0), ((row[0], ("join", (4, 5), (0, 1))), 1),
        ]:
            before = copy.deepcopy(deeds)
            for call in (walked, returned):
                for told in (deeds, tuple(deeds)):
                    with self.assertRaises(BadDeed) as caught:
                        call(AT_A_PLACE, told)
                    self.assertEqual(caught.exception.place, place)
                    self.assertIs(type(caught.exception.place), int)
            self.assertEqual(deeds, before)
        self.assertEqual(AT_A_PLACE.stars, of("01", "02", "1235", "34", "45").stars)


class DeedsOf(unittest.TestCase):
    def test_all_sets_and_pairs_of_stars(self):
        for web in distinct_webs():
            told = {deed for deed in forms_on(web) if plain_done(web, deed) is not None}
            found = deeds_of(web)
            self.assertIs(type(found), tuple)
            self.assertEqual(found, tuple(sorted(told)))

    def test_eight_ties(self):
        begun = time.process_time()
        for ends in (
            [(k, (k + 1) % 8) for k in range(8)], [(0, 1)] * 8, [(0, 0)] * 8, [(k, k) for k in range(8)],
            [(2 * k, 2 * k + 1) for k in range(8)], [(0, k) for k in range(1, 5)] + [(k, k % 4 + 1) for k in range(1, 5)],
            [(0, 1), (1, 2), (2, 0), (2, 3), (4, 4), (5, 6), (6, 5), (6, 7)],
        ):
            web = web_of(ends)
            told = {deed for deed in forms_on(web) if plain_done(web, deed) is not None}
            self.assertEqual(deeds_of(web), tuple(sorted(told)))
        self.assertLess(time.process_time() - begun, 20)

    def test_lone_ties_are_joined_once(self):
        self.assertEqual(deeds_of(of("0", "0", "1", "1")), (("join", (0,), (1,)),))
        self.assertEqual(deeds_of(of("0", "0", "1")), (("join", (0,), (1,)),))

    def test_too_great(self):
        for web in (web_of([(0, 1)] * 9), web_of([(k, k) for k in range(9)]), RING, WHEEL, GRID, LONE_TIES):
            with self.assertRaises(TooGreat) as caught:
                deeds_of(web)
            self.assertEqual(caught.exception.most, 8)


if __name__ == "__main__":
    unittest.main()

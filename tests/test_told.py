import time
import unittest
from itertools import combinations, combinations_with_replacement, permutations, product

from samerounds import told as module
from samerounds.cuts import cuts
from samerounds.errors import BadName, BadNumber, BadSet, TooGreat
from samerounds.rounds import rounds
from samerounds.told import (
    FIVE, MOST_SETS, MOST_TOLD, five_of, is_paper_of, left_of, paper_of, web_with,
)
from samerounds.webs import Web, web_of
from samples import (
    LIKE, NO_SETS, RING, all_sets, arguments, by_names, plain_cuts, plain_left, plain_rounds, small_webs,
)

LINES = [(0, 1, 2), (0, 3, 4), (0, 5, 6), (1, 3, 5), (1, 4, 6), (2, 3, 6), (2, 4, 5)]
NINE = [(near, far) for near in range(3) for far in range(3, 6)]
TEN = list(combinations(range(5), 2))

# The ends of the ties of webs with up to ten ties.
ENDS = [
    [], [(0, 0)], [(0, 1)], [(0, 1)] * 10, [(0, 0)] * 10, [(k, k + 1) for k in range(10)],
    [(k, (k + 1) % 10) for k in range(10)], [(0, 1)] * 4 + [(1, 2)] * 3 + [(2, 0)] * 3, TEN, NINE, [*NINE, (0, 1)],
    list(combinations(range(4), 2)), [*combinations(range(4), 2), (0, 4), (4, 1), (2, 5), (5, 3)],
    [(0, k) for k in range(1, 6)] + [(k, k % 5 + 1) for k in range(1, 6)],
    [(0, k) for k in range(2, 7)] + [(1, k) for k in range(2, 7)],
    [(0, 1), (1, 2), (2, 0), (3, 4), (4, 5), (5, 3), (0, 3), (1, 4), (2, 5)],
    [(0, 1), (1, 2), (2, 0), (2, 3), (3, 4), (4, 2), (5, 5), (6, 7), (7, 6), (8, 9)],
    [(0, 1), (1, 2), (2, 3), (3, 4), (4, 5), (5, 0), (0, 3), (1, 4), (1, 5), (0, 2)],
    [(0, 1), (1, 2), (2, 3), (3, 0), (0, 4), (4, 5), (5, 2), (2, 6), (6, 7), (7, 0)],
    [(0, 1), (0, 1), (1, 2), (1, 2), (2, 3), (2, 3), (3, 0), (3, 0), (0, 2), (1, 3)],
]


def turned(row, step):
    """The items of a row in another order."""
    many = len(row)
    return tuple(row[(k * step + step) % many] for k in range(many)) if many else ()


def renamed(sets, names):
    """Sets with other names of the ties, as sets are listed."""
    told = [tuple(sorted(names[tie] for tie in some)) for some in sets]
    return tuple(sorted(told, key=lambda some: (len(some), some)))


def plain_lots():
    """The five lots, each by other words than those of the program."""
    # Of the sets of four, those of the ties that are not in a line are the ones with no line in them.
    seven = [some for some in combinations(range(7), 4) if not any(set(line) <= set(some) for line in LINES)]
    return {
        "four": (4, tuple(combinations(range(4), 3))),
        "seven": (7, tuple(LINES + seven)),
        "other seven": (7, tuple(seven)),
        "nine": (9, plain_cuts(web_of(NINE))),
        "ten": (10, plain_cuts(web_of(TEN))),
    }


LOTS = plain_lots()


def is_tie(value, many):
    return type(value) is int and 0 <= value < many


def is_plain_set(value, many):
    return type(value) is tuple and all(is_tie(tie, many) for tie in value) and list(value) == sorted(set(value))


def plain_is_paper(many, sets, value):
    """Whether any value is a paper, as [16] tells it."""
    if type(value) is not tuple or not value or type(value[0]) is not str:
        return False
    word, rest = value[0], value[1:]
    told = {frozenset(some) for some in sets}
    if word == "empty":
        return not rest and frozenset() in told
    if word == "web" and len(rest) == 1:
        return is_plain_web(many, told, rest[0])
    if word in ("within", "lacking") and len(rest) == {"within": 2, "lacking": 3}[word]:
        if not is_plain_set(rest[0], many) or not is_plain_set(rest[1], many):
            return False
        one, other = set(rest[0]), set(rest[1])
        if one not in told or other not in told or one == other:
            return False
        if word == "within":
            return bool(one) and one <= other
        tie = rest[2]
        return is_tie(tie, many) and tie in one & other and not any(some <= (one | other) - {tie} for some in told)
    return word == "left" and len(rest) == 4 and is_plain_left_paper(many, sets, *rest)


def is_plain_web(many, told, stars):
    """Whether a value is the stars of a web with these rounds."""
    if type(stars) is not tuple or not all(is_plain_set(star, many) and star for star in stars):
        return False
    counts = [sum(tie in star for star in stars) for tie in range(many)]
    if list(stars) != sorted(stars) or not all(count in (1, 2) for count in counts):
        return False
    return {frozenset(some) for some in plain_rounds(Web(stars))} == told


def is_plain_left_paper(many, sets, out, shrunk, name, order):
    if not is_plain_set(out, many) or not is_plain_set(shrunk, many) or type(name) is not str or name not in LOTS:
        return False
    if type(order) is not tuple or not all(is_tie(tie, many) for tie in order):
        return False
    if sorted(out + shrunk + order) != list(range(many)) or len(order) != LOTS[name][0]:
        return False
    return plain_left(sets, out, shrunk) == renamed(LOTS[name][1], order)


def other_papers(many, sets):
    """Whether there is a paper of another sort than a web on told sets of up to five ties, by looking at each."""
    told = sorted(set(sets))
    if () in told:
        return True
    for one, other in permutations(told, 2):
        if set(one) <= set(other):
            return True
        for tie in set(one) & set(other):
            if not any(set(some) <= {*one, *other} - {tie} for some in told):
                return True
    for four in combinations(range(many), 4):
        rest = [tie for tie in range(many) if tie not in four]
        for size in range(len(rest) + 1):
            for out in combinations(rest, size):
                shrunk = tuple(tie for tie in rest if tie not in out)
                if plain_left(told, out, shrunk) == renamed(LOTS["four"][1], four):
                    return True
    return False


def check(case, many, sets):
    """Check the paper and the web on told sets, and return the word of the paper."""
    paper = paper_of(many, sets)
    case.assertTrue(plain_is_paper(many, sets, paper), (many, sets, paper))
    case.assertIs(is_paper_of(many, sets, paper), True)
    web = web_with(many, sets)
    if paper[0] == "web":
        case.assertIs(type(web), Web)
        case.assertEqual(len(web), many)
        case.assertEqual(rounds(web), tuple(sorted(set(sets), key=lambda some: (len(some), some))))
        case.assertIs(is_paper_of(many, sets, ("web", web.stars)), True)
    else:
        case.assertIs(web, None)
    return paper[0]


class Names(unittest.TestCase):
    def test_values(self):
        self.assertEqual(FIVE, ("four", "seven", "other seven", "nine", "ten"))
        self.assertIs(type(FIVE), tuple)
        self.assertEqual((MOST_TOLD, MOST_SETS), (10, 100))
        self.assertIs(type(MOST_TOLD), int)
        self.assertIs(type(MOST_SETS), int)

    def test_where_it_is_defined(self):
        for function, names in [
            (paper_of, ("many", "sets")), (is_paper_of, ("many", "sets", "value")), (web_with, ("many", "sets")),
            (left_of, ("many", "sets", "out", "shrunk")), (five_of, ("name",)),
        ]:
            self.assertEqual(getattr(module, function.__name__).__module__, "samerounds.told")
            self.assertEqual(arguments(function), names)

    def test_by_names(self):
        self.assertEqual(by_names(web_with, 2, ((0, 1),)), Web([(0, 1), (0, 1)]))
        self.assertIs(by_names(web_with, 2, ((),)), None)
        self.assertEqual(by_names(paper_of, 2, ((),)), ("empty",))
        self.assertEqual(by_names(paper_of, 0, ()), ("web", ()))
        self.assertIs(by_names(is_paper_of, 2, ((),), ("empty",)), True)
        self.assertIs(by_names(is_paper_of, 2, ((0,),), ("empty",)), False)
        self.assertEqual(by_names(left_of, 3, ((0, 1), (1, 2)), (0,), (1,)), ((2,),))
        self.assertEqual(by_names(five_of, "four"), (4, ((0, 1, 2), (0, 1, 3), (0, 2, 3), (1, 2, 3))))


class WebWith(unittest.TestCase):
    def test_all_told_sets_of_up_to_three_ties(self):
        for many in range(4):
            pairs = list(combinations_with_replacement(range(2 * many), 2))
            known = {plain_rounds(web_of(ends)) for ends in product(pairs, repeat=many)}
            sets = all_sets(many)
            for bits in range(1 << len(sets)):
                told = tuple(some for at, some in enumerate(sets) if bits >> at & 1)
                word = check(self, many, told)
                self.assertEqual(word == "web", told in known, told)
                self.assertEqual(word == "web", not other_papers(many, told))

    def test_told_sets_of_four_ties(self):
        # With four ties, what the rounds can be is seen at five places.
        pairs = list(combinations_with_replacement(range(5), 2))
        known = {rounds(web_of(ends)) for ends in product(pairs, repeat=4)}
        sets = all_sets(4)
        # The first set is the empty one; with it among them there is no web.
        for bits in range(0, 1 << len(sets), 2):
            told = tuple(some for at, some in enumerate(sets) if bits >> at & 1)
            self.assertEqual(web_with(4, told) is not None, told in known, told)
            if bits % 22 == 0 or told in known:
                word = check(self, 4, told)
                self.assertEqual(word == "web", not other_papers(4, told))

    def test_told_sets_of_five_ties(self):
        sets = all_sets(5)[1:]
        chosen = [tuple(sets[k * step % len(sets)] for k in range(1, many)) for many in range(2, 8) for step in range(1, 31)]
        for size in range(1, 6):
            rows = list(combinations(range(5), size))
            chosen += [tuple(rows[:many]) for many in range(len(rows) + 1)]
            chosen += [tuple(rows[many:]) for many in range(len(rows) + 1)]
        for told in chosen:
            word = check(self, 5, told)
            self.assertEqual(word == "web", not other_papers(5, told))

    def test_rounds_of_small_webs(self):
        for web in small_webs()[::3]:
            self.assertEqual(check(self, len(web), turned(rounds(web), 1)), "web")

    def test_rounds_of_webs_of_up_to_ten_ties(self):
        for ends in ENDS:
            many, told = len(ends), rounds(web_of(ends))
            for sets in (told, told[::-1], told + told[:100 - len(told)], told[2:] + told[:2] + told[-1:]):
                self.assertEqual(check(self, many, sets), "web")
                self.assertEqual(paper_of(many, sets), paper_of(many, sets))
                self.assertEqual(web_with(many, sets), web_with(many, tuple(list(sets))))
            for step in (1, 3, 7, 9):
                # Other names of the ties.
                names = turned(range(many), step) if many == 10 else tuple(range(many))[::-1]
                self.assertEqual(check(self, many, renamed(told, names)), "web")

    def test_one_left_out_and_one_put_in(self):
        for ends in ENDS:
            many, told = len(ends), rounds(web_of(ends))
            for at in range(0, len(told), 1 + len(told) // 12):
                check(self, many, told[:at] + told[at + 1:])
            for some in all_sets(many)[::1 + (1 << many) // 40]:
                word = check(self, many, (*told, some))
                if some in told:
                    self.assertEqual(word, "web")
                if some == ():
                    self.assertEqual(word, "empty")

    def test_one_left_out_by_hand(self):
        # Without a triangle of the four places all tied, two others lack it.
        told = rounds(web_of(list(combinations(range(4), 2))))
        for at in range(len(told)):
            self.assertEqual(check(self, 6, told[:at] + told[at + 1:]), "lacking")
        # Without a loop there is a web in which this tie is none.
        self.assertEqual(check(self, 3, ((0,), (2,))), "web")
        # Without all, there is a tree.
        self.assertEqual(check(self, 10, ()), "web")
        self.assertEqual(check(self, 3, ((0, 1), (0, 1, 2))), "within")
        self.assertEqual(check(self, 3, ((0, 1), (1, 2))), "lacking")
        self.assertEqual(check(self, 3, ((0, 1), (0,))), "within")
        self.assertEqual(check(self, 0, ()), "web")
        self.assertEqual(check(self, 0, ((),)), "empty")
        self.assertEqual(check(self, 0, ((), ())), "empty")

    def test_all_sets_of_one_size(self):
        for many in range(11):
            for size in range(many + 1):
                sets = tuple(combinations(range(many), size))
                if len(sets) > 100:
                    continue
                word = check(self, many, sets)
                if size == 0:
                    self.assertEqual(word, "empty")
                elif size in (1, 2, many):
                    self.assertEqual(word, "web")
                else:
                    self.assertEqual(word, "left")


class Lots(unittest.TestCase):
    def test_five_of(self):
        for name in FIVE:
            many, sets = by_names(five_of, name)
            self.assertIs(type(five_of(name)), tuple)
            self.assertIs(type(sets), tuple)
            self.assertEqual((many, sets), LOTS[name])
            self.assertEqual(list(sets), sorted(set(sets), key=lambda some: (len(some), some)))
        self.assertEqual([five_of(name)[0] for name in FIVE], [4, 7, 7, 9, 10])
        self.assertEqual([len(five_of(name)[1]) for name in FIVE], [4, 14, 7, 24, 15])
        self.assertEqual(five_of("nine")[1], cuts(web_of(NINE)))
        self.assertEqual(five_of("ten")[1], cuts(web_of(TEN)))
        self.assertEqual(five_of("seven")[1][:7], tuple(LINES))
        self.assertEqual(
            five_of("other seven")[1],
            ((0, 1, 3, 6), (0, 1, 4, 5), (0, 2, 3, 5), (0, 2, 4, 6), (1, 2, 3, 4), (1, 2, 5, 6), (3, 4, 5, 6)),
        )
        self.assertEqual(five_of("seven")[1][7:], five_of("other seven")[1])

    def test_no_name(self):
        for value in (
            None, True, 0, 4, 7, 10 ** 999, "", "Four", "five", "four ", " four", "other", "other  seven", "nin", "tens",
            b"four", LIKE, (), ("four",), ["four"], {}, {"four"}, {"four": 4}, object(), len, FIVE, "otherseven", "fou",
        ):
            with self.assertRaises(BadName) as caught:
                five_of(value)
            self.assertIs(caught.exception.value, value)
            with self.assertRaises(BadName):
                five_of(name=value)

    def test_papers_on_the_lots(self):
        for name in FIVE:
            many, sets = LOTS[name]
            paper = paper_of(many, sets)
            self.assertEqual(check(self, many, sets), "left")
            self.assertEqual(paper[1:4], ((), (), name))
            self.assertIs(is_paper_of(many, sets, ("left", (), (), name, tuple(range(many)))), True)

    def test_any_tie_less(self):
        for name in FIVE:
            many, sets = LOTS[name]
            for tie in range(many):
                for out, shrunk in (((tie,), ()), ((), (tie,))):
                    left = left_of(many, sets, out, shrunk)
                    self.assertEqual(check(self, many, left), "web")

    def test_other_names_of_the_ties(self):
        for name in FIVE:
            many, sets = LOTS[name]
            for turn in range(5):
                names = tuple(range(many))[turn:] + tuple(range(many))[:turn]
                names = names[::2] + names[1::2]
                told = renamed(sets, names)
                self.assertEqual(check(self, many, turned(told, 1)), "left")
                self.assertEqual(paper_of(many, told)[3], name)
                self.assertIs(is_paper_of(many, told, ("left", (), (), name, names)), True)

    def test_with_more_ties(self):
        for name in FIVE:
            many, sets = LOTS[name]
            for more in range(1, 11 - many):
                whole = many + more
                extra = tuple(range(many, whole))
                for added in ((), tuple((tie,) for tie in extra), (extra,), ((many,),), tuple(combinations(extra, 2))):
                    for names in (tuple(range(whole)), tuple(range(whole))[::-1], tuple(range(more, whole)) + tuple(range(more))):
                        told = renamed({*sets, *added}, names)
                        self.assertEqual(check(self, whole, turned(told, 1)), "left")
                        self.assertEqual(paper_of(whole, told)[3], name)

    def test_a_tie_made_a_row_or_doubled(self):
        for name in ("four", "seven", "other seven", "nine"):
            many, sets = LOTS[name]
            for tie in range(many):
                # One tie more wherever this one is, in a row with it.
                row = [(*some, many) if tie in some else some for some in sets]
                told = renamed(row, tuple(range(many, -1, -1)))
                self.assertEqual(check(self, many + 1, told), "left")
                # One tie more beside this one, in its place.
                doubled = {*sets, (tie, many), *[tuple(sorted({*some, many} - {tie})) for some in sets if tie in some]}
                if len(doubled) <= 100:
                    self.assertEqual(check(self, many + 1, tuple(sorted(doubled))), "left")

    def test_side_by_side(self):
        four = LOTS["four"][1]
        for step in (4, 5, 6):
            told = (*four, *renamed(four, tuple(range(step, step + 4))))
            self.assertEqual(check(self, step + 4, told), "left")
        triangle = ((7, 8, 9),)
        for name in ("seven", "other seven"):
            self.assertEqual(check(self, 10, (*triangle, *LOTS[name][1])), "left")
        # Sets of two lots that are mixed up are the rounds of nothing.
        self.assertEqual(check(self, 6, (*four, *renamed(four, (2, 3, 4, 5)))), "lacking")

    def test_what_is_left_of_more_sets(self):
        # Nine of ten ties, one of which hides: what is left is told although the tie is no round.
        for name in ("four", "seven", "nine"):
            many, sets = LOTS[name]
            told = (*sets, (many,))
            self.assertIs(is_paper_of(many + 1, told, ("left", (many,), (), name, tuple(range(many)))), True)
            self.assertIs(is_paper_of(many + 1, told, ("left", (), (many,), name, tuple(range(many)))), True)

    def test_in_reasonable_time(self):
        heavy = [tuple(combinations(range(9), 3)), tuple(combinations(range(8), 4)), tuple(combinations(range(10), 8))]
        heavy += [rounds(web_of(ends)) for ends in ENDS] + [LOTS["ten"][1], LOTS["nine"][1]]
        heavy += [all_sets(10)[1 + step:1024:step][:100] for step in (11, 13, 17, 97)]
        heavy += [tuple(combinations(range(10), 5))[:100], tuple(combinations(range(10), 4))[-100:]]
        for sets in heavy:
            begun = time.process_time()
            paper = paper_of(10, tuple(sets))
            web_with(10, tuple(sets))
            is_paper_of(10, tuple(sets), paper)
            self.assertLess(time.process_time() - begun, 5)


class IsPaperOf(unittest.TestCase):
    RIGHT = [
        (3, ((0, 1, 2),), ("web", ((0, 1), (0, 2), (1, 2)))),
        (0, (), ("web", ())),
        (2, ((0,), (1,)), ("web", ((0, 1),))),
        (2, ((0,), (1,)), ("web", ((0,), (1,)))),
        (2, (), ("web", ((0,), (0, 1), (1,)))),
        (3, ((0, 1, 2),) * 5, ("web", ((0, 1), (0, 2), (1, 2)))),
        (2, ((0,), ()), ("empty",)),
        (0, ((),), ("empty",)),
        (3, ((0, 1), (0, 1, 2)), ("within", (0, 1), (0, 1, 2))),
        (3, ((0, 1), (1,), (0, 1, 2)), ("within", (1,), (0, 1, 2))),
        (3, ((0, 1), (1, 2)), ("lacking", (0, 1), (1, 2), 1)),
        (3, ((0, 1), (1, 2)), ("lacking", (1, 2), (0, 1), 1)),
        (4, ((0, 1, 2), (0, 3)), ("lacking", (0, 3), (0, 1, 2), 0)),
        (4, ((0, 1, 2), (0, 2, 3)), ("lacking", (0, 2, 3), (0, 1, 2), 2)),
        (4, LOTS["four"][1], ("left", (), (), "four", (0, 1, 2, 3))),
        (4, LOTS["four"][1], ("left", (), (), "four", (3, 1, 0, 2))),
        (6, (*LOTS["four"][1], (0, 1, 5)), ("left", (5,), (4,), "four", (0, 1, 2, 3))),
        (6, (*LOTS["four"][1], (0, 1, 5)), ("left", (4, 5), (), "four", (2, 3, 0, 1))),
        (7, LOTS["seven"][1], ("left", (), (), "seven", (0, 1, 2, 3, 4, 5, 6))),
        (7, LOTS["other seven"][1], ("left", (), (), "other seven", (0, 1, 2, 3, 4, 5, 6))),
        (10, LOTS["nine"][1], ("left", (9,), (), "nine", tuple(range(9)))),
        (10, LOTS["nine"][1], ("left", (), (9,), "nine", tuple(range(9)))),
        (10, LOTS["ten"][1], ("left", (), (), "ten", tuple(range(10)))),
    ]

    def test_right_papers(self):
        for many, sets, paper in self.RIGHT:
            self.assertTrue(plain_is_paper(many, sets, paper), paper)
            self.assertIs(is_paper_of(many, sets, paper), True, paper)
            self.assertIs(is_paper_of(many, sets[::-1], paper), True)

    def test_something_otherwise(self):
        others = [
            None, True, False, 0, 1, -1, 3, 10 ** 999, "", "web", "empty", "four", "seven", "ten", (), (0,), (1,), (0, 1),
            (1, 0), (0, 1, 2), (0, 1, 2, 3), (1, 1), (False,), (0, True), [], [0], [0, 1], {}, {0}, object(), b"four",
            ((0, 1), (0, 2), (1, 2)), ((0,), (0,)), ((0, 2), (0, 1), (1, 2)), [(0, 1), (0, 2), (1, 2)], ((),), ("four",),
            (0, 1, 3, 2), (3, 2, 1, 0), (0, 1, 2, 4), (0, 1, 2, 3, 4), (0, 0, 1, 2), (0, 1, 2, "3"), (True, 0, 2, 3), RING,
            ((0, 1), [0, 2], (1, 2)), ((0, 1), (0, 2), (1, 2), (3,)), ((0, 1, 2),), ((0, 1, 2), (0, 1, 2)), (4,), (5,), (4, 5),
            tuple(range(10)), tuple(range(9)), (9,), (12,), ((12,),), tuple((k,) for k in range(13)),
        ]
        for many, sets, paper in self.RIGHT:
            values = [list(paper), paper[1:], paper + (None,), paper + ((),), paper[:-1], (paper,), paper * 2, paper[::-1]]
            for at in range(len(paper)):
                values += [(*paper[:at], other, *paper[at + 1:]) for other in others]
                values += [(*paper[:at], *paper[at + 1:]), (*paper[:at], paper[at], paper[at], *paper[at + 1:])]
            for word in ("web", "empty", "within", "lacking", "left", "Web", "", None, 0, True, b"web", (), ["web"]):
                values.append((word, *paper[1:]))
            for value in values:
                told = plain_is_paper(many, sets, value)
                self.assertIs(is_paper_of(many, sets, value), told, (many, sets, value))

    def test_any_value(self):
        values = [
            None, True, False, 0, 1, 10 ** 999, -1, "", "web", "empty", b"empty", (), [], {}, set(), object(), len, RING, Web,
            LIKE, (LIKE,), (LIKE, LIKE), (LIKE, LIKE, LIKE), (LIKE,) * 4, (LIKE,) * 5, ("web", LIKE), ("web", (LIKE,)),
            ("within", LIKE, LIKE), ("lacking", LIKE, LIKE, LIKE), ("left", LIKE, LIKE, LIKE, LIKE), ("web", ((LIKE,),)),
            ("left", (), (), LIKE, (0, 1, 2, 3)), ("left", (), (), "four", LIKE), ("left", (), (), "four", (LIKE, 1, 2, 3)),
            ["empty"], {"empty": 1}, {"empty"}, (None,), (True,), (0,), ((),), ("",), ("web",), ("within",), ("lacking",),
            ("left",), (("empty",),), ("empty", ()), ("empty", None), ("Empty",), (b"empty",), (["empty"],), range(1),
        ]
        for many, sets in ((0, ()), (0, ((),)), (2, ((), (0,))), (4, LOTS["four"][1]), (3, ((0, 1, 2),))):
            for value in values:
                self.assertIs(is_paper_of(many, sets, value), False, value)
            self.assertIs(is_paper_of(many, sets, ("empty",)), () in sets)

    def test_each_web_paper_on_a_triangle(self):
        pairs = list(combinations_with_replacement(range(4), 2))
        for ends in product(pairs, repeat=3):
            web = web_of(ends)
            for sets in (((0, 1, 2),), (), ((0, 1), (2,)), ((2,), (0, 1)), ((0,), (1,), (2,))):
                told = set(rounds(web)) == set(sets)
                self.assertIs(is_paper_of(3, sets, ("web", web.stars)), told)
            self.assertIs(is_paper_of(4, rounds(web), ("web", web.stars)), False)
            self.assertIs(is_paper_of(3, rounds(web), ("web", list(web.stars))), False)

    def test_each_pair_of_sets(self):
        for sets in (((0, 1), (1, 2), (0, 2)), ((0, 1), (1, 2)), ((0,), (0, 1), ()), ((0, 1, 2), (1, 2, 3), (0, 3), (0, 1))):
            for one, other in product(all_sets(4), repeat=2):
                values = [("within", one, other), *[("lacking", one, other, tie) for tie in (0, 1, 2, 3, 4, True, None)]]
                for value in values:
                    self.assertIs(is_paper_of(4, sets, value), plain_is_paper(4, sets, value), (sets, value))

    def test_each_left_paper(self):
        told = (*LOTS["four"][1], (0, 1, 4), (2, 3, 4), (0, 1, 5))
        found = 0
        for out, shrunk in product(all_sets(6), repeat=2):
            rest = [tie for tie in range(6) if tie not in out + shrunk]
            for order in (tuple(rest), tuple(rest[::-1]), tuple(rest[:4])):
                value = ("left", out, shrunk, "four", order)
                is_paper = plain_is_paper(6, told, value)
                self.assertIs(is_paper_of(6, told, value), is_paper, value)
                found += is_paper
        self.assertGreater(found, 0)

    def test_orders_of_seven(self):
        told = LOTS["seven"][1]
        right = 0
        for order in list(permutations(range(7)))[::5]:
            value = ("left", (), (), "seven", order)
            is_paper = renamed(told, order) == told
            self.assertIs(is_paper_of(7, told, value), is_paper)
            right += is_paper
        self.assertGreater(right, 5)


class LeftOf(unittest.TestCase):
    def test_by_hand(self):
        for many, sets, out, shrunk, told in [
            (0, (), (), (), ()),
            (0, ((),), (), (), ()),
            (3, ((0, 1, 2),), (), (), ((0, 1, 2),)),
            (3, ((0, 1, 2),), (0,), (), ()),
            (3, ((0, 1, 2),), (), (0,), ((1, 2),)),
            (3, ((0, 1, 2),), (), (0, 1, 2), ()),
            (3, ((0, 1, 2), (), (0, 1)), (), (), ((0, 1),)),
            (3, ((0, 1, 2), (0, 1), (0, 1)), (), (), ((0, 1),)),
            (3, ((0, 1), (1, 2)), (0,), (1,), ((2,),)),
            (3, ((1, 2), (0, 1), (2,), (0,)), (), (), ((0,), (2,))),
            (4, ((0, 1, 2), (1, 3), (2, 3)), (), (3,), ((1,), (2,))),
            (4, ((0, 1, 3), (0, 2, 3)), (), (3,), ((0, 1), (0, 2))),
            (4, ((0, 1, 3), (0, 1), (2, 3)), (), (0,), ((1,), (2, 3))),
            (4, ((2, 3), (0, 1, 2), (3,)), (3,), (0,), ((1, 2),)),
            (5, ((3, 4), (2,), (0, 1), (1, 2, 3)), (2,), (), ((0, 1), (3, 4))),
            (10, ((8, 9), (0, 1, 2), (7,)), (), (), ((7,), (8, 9), (0, 1, 2))),
            (10, ((0, 9), (0, 8, 9)), (), (9,), ((0,),)),
        ]:
            self.assertEqual(by_names(left_of, many, sets, out, shrunk), told)
            self.assertIs(type(left_of(many, sets, out, shrunk)), tuple)

    def test_against_the_words(self):
        families = [
            LOTS["four"][1], ((0, 1), (2, 3), (0, 2, 3)), ((), (0,), (1, 2, 3)), ((0, 1, 2, 3), (0, 1), (3,), (0, 2)), (),
        ]
        for sets in families:
            for out, shrunk in product(all_sets(4), repeat=2):
                if not set(out) & set(shrunk):
                    self.assertEqual(left_of(4, sets, out, shrunk), plain_left(sets, out, shrunk))
        for sets in (LOTS["nine"][1], LOTS["ten"][1], rounds(web_of(TEN))):
            for out, shrunk in product(all_sets(9)[::13], repeat=2):
                if not set(out) & set(shrunk):
                    self.assertEqual(left_of(10, sets, out, shrunk), plain_left(sets, out, shrunk))

    def test_refused_out(self):
        for value in NO_SETS:
            with self.assertRaises(BadSet) as caught:
                left_of(3, ((0, 1),), value, None)
            self.assertIs(caught.exception.value, value)
        for value in ((3,), (0, 3), (1, 0), (0, 0), [0], (True,)):
            with self.assertRaises(BadSet) as caught:
                left_of(3, ((0, 1),), value, value)
            self.assertIs(caught.exception.value, value)
            with self.assertRaises(BadSet):
                left_of(shrunk=(), out=value, sets=(), many=3)

    def test_refused_shrunk(self):
        for value in [*NO_SETS, (0,), (0, 1), (0, 1, 2), (0, 2)]:
            with self.assertRaises(BadSet) as caught:
                left_of(3, ((0, 1),), (0,), value)
            self.assertIs(caught.exception.value, value)
            with self.assertRaises(BadSet):
                left_of(shrunk=value, out=(0,), sets=(), many=3)
        with self.assertRaises(BadSet) as caught:
            left_of(3, (), (0, 1, 2), (1,))
        self.assertEqual(caught.exception.value, (1,))
        self.assertEqual(left_of(3, ((0, 1),), (2,), (0,)), ((1,),))


class Refused(unittest.TestCase):
    def calls(self, many, sets):
        return [
            lambda: paper_of(many, sets), lambda: is_paper_of(many, sets, ("empty",)), lambda: is_paper_of(many, sets, None),
            lambda: web_with(many, sets), lambda: left_of(many, sets, (), ()), lambda: left_of(many, sets, None, None),
            lambda: left_of(many, sets, (0, 0), (11,)), lambda: web_with(sets=sets, many=many),
            lambda: paper_of(sets=sets, many=many), lambda: is_paper_of(value=0, sets=sets, many=many),
        ]

    def test_bad_number_first(self):
        crowd = ((),) * 101
        for many in (None, LIKE, True, False, -1, 11, 12, 10 ** 999, -10 ** 999, "3", b"", "", (), (3,), [], {}, {3}, object(), RING):
            for sets in ((), ((0,),), None, ((9, 8),), crowd, many):
                for call in self.calls(many, sets):
                    with self.assertRaises(BadNumber) as caught:
                        call()
                    self.assertIs(caught.exception.value, many)

    def test_then_bad_set(self):
        values = [
            None, LIKE, (LIKE,), ((LIKE,),), True, 0, 3, "", "01", b"", [], [(0,)], {}, {(0,): 1}, set(), {(0,)}, object(), range(2), RING, iter([]),
            (0,), (0, 1), (None,), ("",), ("0",), ([0],), ({0},), ((0,), None), ((1, 0),), ((0, 0),), ((0,), (3,)), ((-1,),),
            ((0, 3),), ((True,),), ((0, True),), ((0,), (False, 1)), ((0,), [1]), (((0,),),), ((10 ** 999,),), ((0,),) * 101 + (None,),
            ((0,),) * 100 + ((3,),), (0,) * 101, [(0,)] * 101, ((0, 1, 2), (0, 1, 2, 3)), RING.stars,
        ]
        for sets in values:
            for call in self.calls(3, sets):
                with self.assertRaises(BadSet) as caught:
                    call()
                self.assertIs(caught.exception.value, sets)
        for call in self.calls(0, ((0,),)):
            with self.assertRaises(BadSet):
                call()
        for call in self.calls(10, ((10,),)):
            with self.assertRaises(BadSet):
                call()

    def test_then_too_great(self):
        for sets in (((0,),) * 101, ((),) * 101, tuple(all_sets(10)[:101]), ((0,),) * 1000):
            for call in self.calls(10, sets):
                with self.assertRaises(TooGreat) as caught:
                    call()
                self.assertEqual(caught.exception.most, 100)
        for sets in (((0,),) * 100, tuple(all_sets(10)[1:11]) * 10):
            self.assertEqual(check(self, 10, sets), "web")
        self.assertEqual(paper_of(10, tuple(all_sets(10)[:100])), ("empty",))
        self.assertEqual(check(self, 10, tuple(all_sets(10)[1:101])), "within")


if __name__ == "__main__":
    unittest.main()

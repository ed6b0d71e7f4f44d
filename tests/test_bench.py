import copy
import operator
import random
import time
import unittest
from itertools import combinations

from samerounds import bench as module
from samerounds.bench import Bench, tried
from samerounds.deeds import can, deeds_of, done, walked
from samerounds.errors import BadDeed, NothingLeft, RoundError
from samerounds.rounds import rounds
from samerounds.webs import Web, web_of
from samples import GREAT, LIKE, LIKE_TIES, LONE_TIES, MIXED, RING, WHEEL, all_sets, arguments, by_names, of

TWO = web_of([(0, 1), (1, 2), (2, 0), (2, 3), (3, 4), (4, 2)])
FOUR_TIED = web_of(list(combinations(range(4), 2)))
ROW = [("part", (0, 1, 2)), ("join", (0, 1), (4, 5)), ("twist", (3,)), ("part", (3, 4, 5)), ("join", (1, 2), (3, 4))]
NO_DEEDS = [
    None, True, 0, "", "part", [], ["part", (0, 1, 2)], {}, (), ("part",), ("part", (0, 1)), ("part", [0, 1, 2]), ("part", (2, 1, 0)),
    ("part", ()), ("twist", (0, 3)), ("join", (0, 1), (3, 4)), ("join", (0,), (1,)), ("web", ()), object(), LIKE, (LIKE, (0, 1, 2)),
    TWO, len, ("part", (0, 1, 2), ()), (b"part", (0, 1, 2)),
]
NO_ROWS = [None, True, 0, 1, "", "part", b"", {}, set(), {ROW[0]: 1}, object(), range(0), iter([]), TWO, len, LIKE, 10 ** 999]


class Fault(Exception):
    """What a block raises."""


def state(bench):
    """All that can be told of a bench by asking, and by doing again on a copy."""
    other = copy.deepcopy(bench)
    again = []
    while True:
        try:
            again.append(other.redo())
        except NothingLeft:
            break
    return (bench.first.stars, bench.web.stars, bench.deeds(), len(bench), tuple(again))


class Model:
    """A bench as it should be: a row of deeds, of which the first ones stand."""

    def __init__(self, web):
        self.first = web
        self.row = []
        self.many = 0

    def stars(self):
        return walked(self.first, self.row[:self.many]).stars

    def state(self):
        stands, again = self.row[:self.many], self.row[self.many:]
        return (self.first.stars, self.stars(), tuple(stands), self.many, tuple(again))


def drawn_deed(draw, web):
    """A deed on a web, or a value that is none."""
    if draw.random() < 0.2:
        return draw.choice(NO_DEEDS[:8])
    if len(web) <= 6:
        found = deeds_of(web)
    else:
        some = [("twist", one) for one in draw.sample(all_sets(12), 40)]
        some += [("part", one) for one in draw.sample(all_sets(12), 10)]
        some += [("join", *sorted(draw.sample(web.stars, 2))) for k in range(10) if len(web.stars) > 1]
        found = [deed for deed in some if can(web, deed)]
    return draw.choice(found) if found else None


class Refusing(unittest.TestCase):
    def refused(self, place, call, *values, **named):
        with self.assertRaises(BadDeed) as caught:
            call(*values, **named)
        self.assertEqual(caught.exception.place, place)
        self.assertIs(type(caught.exception.place), type(place))

    def nothing_left(self, call):
        with self.assertRaises(NothingLeft) as caught:
            call()
        self.assertIsInstance(caught.exception, RoundError)


class OneByOne(Refusing):
    def test_new(self):
        for web in (*GREAT, Web([]), TWO):
            bench = Bench(web)
            self.assertIs(bench.first, web)
            self.assertEqual(bench.web, web)
            self.assertEqual(len(bench), 0)
            self.assertEqual(bench.deeds(), ())
            self.assertEqual(bench.way_home(), ())
            self.nothing_left(bench.undo)
            self.nothing_left(bench.redo)
            self.assertEqual(Bench(web=web), bench)
            self.assertEqual(state(bench), (web.stars, web.stars, (), 0, ()))

    def test_row_by_hand(self):
        bench = Bench(TWO)
        webs = [TWO]
        for many, deed in enumerate(ROW, 1):
            new = bench.do(deed) if many % 2 else bench.do(deed=deed)
            self.assertIs(type(new), Web)
            webs.append(done(webs[-1], deed))
            self.assertEqual(new, webs[-1])
            self.assertEqual(bench.web, webs[-1])
            self.assertEqual(len(bench), many)
            self.assertEqual(bench.deeds(), tuple(ROW[:many]))
            self.assertIs(type(bench.deeds()), tuple)
            self.assertEqual(bench.first, TWO)
            self.assertEqual(walked(bench.web, bench.way_home()), TWO)
        self.nothing_left(bench.redo)
        for many in range(4, -1, -1):
            self.assertEqual(bench.undo(), ROW[many])
            self.assertEqual(state(bench), (TWO.stars, webs[many].stars, tuple(ROW[:many]), many, tuple(ROW[many:])))
        self.nothing_left(bench.undo)
        self.assertEqual(state(bench), (TWO.stars, TWO.stars, (), 0, tuple(ROW)))
        for many in range(5):
            self.assertEqual(bench.redo(), ROW[many])
            self.assertEqual(state(bench), (TWO.stars, webs[many + 1].stars, tuple(ROW[:many + 1]), many + 1, tuple(ROW[many + 1:])))
        self.nothing_left(bench.redo)
        self.assertEqual(len(bench), 5)
        self.assertEqual(TWO, web_of([(0, 1), (1, 2), (2, 0), (2, 3), (3, 4), (4, 2)]))

    def test_a_new_deed_ends_what_can_be_done_again(self):
        for deed in (ROW[0], ("part", (3, 4, 5)), ("twist", (0,))):
            bench = Bench(TWO)
            bench.do_all(ROW[:3])
            for step in range(3):
                bench.undo()
            bench.do(deed)
            self.nothing_left(bench.redo)
            self.assertEqual(bench.undo(), deed)
            self.assertEqual(bench.redo(), deed)
            self.nothing_left(bench.redo)
            self.assertEqual(bench.deeds(), (deed,))

    def test_a_deed_that_changes_nothing_stands(self):
        bench = Bench(FOUR_TIED)
        bench.do(("twist", (0,)))
        bench.do(("twist", (0,)))
        self.assertEqual(bench.web, FOUR_TIED)
        self.assertEqual(len(bench), 2)
        self.assertEqual(bench.undo(), ("twist", (0,)))
        self.assertEqual(len(bench), 1)

    def test_no_deed_changes_nothing(self):
        for steps in (0, 1, 3):
            bench = Bench(TWO)
            bench.do_all(ROW[:3])
            for step in range(steps):
                bench.undo()
            before = state(bench)
            for value in [*NO_DEEDS, ("join", (0, 1), (0, 2)), ("part", (12,))]:
                if can(bench.web, value):
                    continue
                self.refused(0, bench.do, value)
                self.refused(0, bench.do, deed=value)
                self.assertEqual(state(bench), before)

    def test_without_ties(self):
        bench = Bench(Web([]))
        for value in (*NO_DEEDS, *ROW):
            self.refused(0, bench.do, value)
        self.assertEqual(bench.do_all([]), Web([]))
        self.assertEqual(bench.way_home(), ())


class DrawnRows(Refusing):
    def step(self, draw, bench, model):
        kind = draw.randrange(8)
        now = Web(model.stars())
        if kind < 3:
            deed = drawn_deed(draw, now)
            if can(now, deed):
                self.assertEqual(bench.do(deed), done(now, deed))
                model.row[model.many:] = [deed]
                model.many += 1
            else:
                self.refused(0, bench.do, deed)
        elif kind < 5:
            if model.many:
                model.many -= 1
                self.assertEqual(bench.undo(), model.row[model.many])
            else:
                self.nothing_left(bench.undo)
        elif kind < 7:
            if model.many < len(model.row):
                self.assertEqual(bench.redo(), model.row[model.many])
                model.many += 1
            else:
                self.nothing_left(bench.redo)
        else:
            self.step_of_many(draw, bench, model, now)

    def step_of_many(self, draw, bench, model, now):
        deeds, first_bad, met = [], None, now
        for place in range(draw.randrange(4)):
            deeds.append(drawn_deed(draw, met))
            if not can(met, deeds[-1]):
                first_bad = place
                break
            met = done(met, deeds[-1])
        row = draw.choice([list, tuple])(deeds)
        if first_bad is not None:
            self.refused(first_bad, bench.do_all, row)
            return
        self.assertEqual(bench.do_all(row), met)
        if deeds:
            model.row[model.many:] = deeds
            model.many += len(deeds)

    def test_small_webs(self):
        for seed in range(60):
            draw = random.Random(seed)
            ends = [(draw.randrange(5), draw.randrange(5)) for k in range(draw.randrange(7))]
            web = web_of(ends)
            bench, model = Bench(web), Model(web)
            for step in range(40):
                self.step(draw, bench, model)
                self.assertEqual(state(bench), model.state())
                home = bench.way_home()
                self.assertIs(type(home), tuple)
                self.assertEqual(walked(bench.web, home), web)
            self.assertEqual(rounds(bench.web), rounds(web))

    def test_great_webs(self):
        for seed, web in enumerate([*GREAT, TWO]):
            draw = random.Random(seed)
            bench, model = Bench(web), Model(web)
            for step in range(25):
                self.step(draw, bench, model)
            self.assertEqual(state(bench), model.state())
            self.assertEqual(walked(bench.web, bench.way_home()), web)

    def test_trials_in_drawn_rows(self):
        for seed in range(40):
            draw = random.Random(seed)
            web = draw.choice([TWO, FOUR_TIED, of("01", "03", "12", "23"), of("0", "0", "12", "12", "3")])
            bench, model = Bench(web), Model(web)
            for step in range(15):
                self.step(draw, bench, model)
                before, kept = state(bench), copy.deepcopy(model)
                with bench.trial():
                    for more in range(draw.randrange(8)):
                        self.step(draw, bench, model)
                    self.assertEqual(state(bench), model.state())
                model = kept
                self.assertEqual(state(bench), before)
                self.assertEqual(state(bench), model.state())

    def test_long_rows(self):
        begun = time.process_time()
        bench = Bench(TWO)
        for step in range(400):
            bench.do_all(ROW[:1])
            bench.do_all([("join", (0, 1), (4, 5)), ("part", (0, 1, 2))])
            bench.do(("join", (1, 2), (3, 5)))
        self.assertEqual(len(bench), 1600)
        self.assertEqual(bench.web, TWO)
        self.assertEqual(walked(bench.web, bench.way_home()), TWO)
        for step in range(1600):
            bench.undo()
        self.assertEqual(bench.web, TWO)
        self.nothing_left(bench.undo)
        self.assertLess(time.process_time() - begun, 10)


class DoAll(Refusing):
    def test_lists_and_tuples(self):
        for many in range(len(ROW) + 1):
            for row in (list(ROW[:many]), tuple(ROW[:many])):
                before = copy.deepcopy(row)
                bench = Bench(TWO)
                self.assertEqual(bench.do_all(row), walked(TWO, row))
                self.assertEqual(state(bench), (TWO.stars, walked(TWO, row).stars, tuple(row), many, ()))
                self.assertEqual(row, before)
                self.assertEqual(bench.do_all(deeds=ROW[many:]), walked(TWO, ROW))
                self.assertEqual(bench.deeds(), tuple(ROW))
                for step in range(5):
                    self.assertEqual(bench.undo(), ROW[4 - step])

    def test_a_list_may_be_changed_later(self):
        row = list(ROW)
        bench = Bench(TWO)
        bench.do_all(row)
        row.clear()
        self.assertEqual(bench.deeds(), tuple(ROW))

    def test_without_any_deed(self):
        bench = Bench(TWO)
        bench.do_all(ROW)
        bench.undo()
        bench.undo()
        before = state(bench)
        for row in ([], ()):
            self.assertEqual(bench.do_all(row), bench.web)
            self.assertEqual(state(bench), before)
        self.assertEqual(bench.redo(), ROW[3])

    def test_with_one_what_can_be_done_again_ends(self):
        bench = Bench(TWO)
        bench.do_all(ROW)
        bench.undo()
        bench.do_all([ROW[4]])
        self.nothing_left(bench.redo)

    def test_no_row(self):
        bench = Bench(TWO)
        bench.do_all(ROW)
        bench.undo()
        before = state(bench)
        for value in NO_ROWS:
            self.refused(None, bench.do_all, value)
            self.refused(None, bench.do_all, deeds=value)
            self.assertEqual(state(bench), before)

    def test_first_one_that_cannot_be_done(self):
        for row, place in [
            ([None], 0), (("part", (0, 1, 2)), 0), ([ROW[0], ROW[0]], 1), ([ROW[1]], 0), ([ROW[0], ROW[1], ROW[1]], 2),
            ([ROW[0], None, 5], 1), ([*ROW, ROW[4]], 5), (ROW[1:], 0), ([[]], 0), ([()], 0), (["part"], 0), ([LIKE], 0),
            ([*ROW, list(ROW[0])], 5),
        ]:
            bench = Bench(TWO)
            bench.do(("twist", (0,)))
            bench.do(("twist", (1,)))
            bench.undo()
            bench.undo()
            for told in (row, list(row), tuple(row)):
                before, kept = state(bench), copy.copy(told)
                self.refused(place, bench.do_all, told)
                self.assertEqual(state(bench), before)
                self.assertEqual(told, kept)
            self.assertEqual(bench.redo(), ("twist", (0,)))


class Equal(unittest.TestCase):
    def test_same_first_web_and_same_deeds(self):
        one, other = Bench(TWO), Bench(web_of([(0, 1), (1, 2), (2, 0), (2, 3), (3, 4), (4, 2)]))
        self.assertIs(one == other, True)
        self.assertIs(one != other, False)
        one.do(ROW[0])
        self.assertIs(one == other, False)
        self.assertIs(one != other, True)
        other.do_all([("part", (0, 1, 2))])
        self.assertIs(one == other, True)
        # Whatever was undone.
        one.do(ROW[1])
        self.assertIs(one == other, False)
        one.undo()
        self.assertIs(one == other, True)
        one.undo()
        other.undo()
        one.redo()
        other.do(ROW[0])
        self.assertIs(one == other, True)

    def test_another_way_to_the_same_web(self):
        one, other, third = Bench(TWO), Bench(TWO), Bench(TWO)
        one.do(("part", (0, 1, 2)))
        other.do(("part", (3, 4, 5)))
        self.assertEqual(one.web, other.web)
        self.assertIs(one == other, False)
        self.assertIs(one != other, True)
        third.do_all([("twist", (0,)), ("twist", (0,))])
        self.assertEqual(third.web, TWO)
        self.assertIs(third == Bench(TWO), False)

    def test_another_first_web(self):
        one, other = Bench(TWO), Bench(done(TWO, ROW[0]))
        one.do(ROW[0])
        self.assertEqual(one.web, other.web)
        self.assertIs(one == other, False)
        self.assertIs(Bench(FOUR_TIED) == Bench(TWO), False)
        # The same deed on two webs.
        first, second = Bench(of("0", "0", "1", "1")), Bench(of("0", "0", "1", "1", "2"))
        for bench in (first, second):
            bench.do(("join", (0,), (1,)))
        self.assertIs(first == second, False)

    def test_unlike_all_else(self):
        bench = Bench(TWO)
        bench.do(ROW[0])
        for other in (
            None, True, 0, 1, "", (), [], {}, bench.web, bench.first, bench.deeds(), len(bench), object(), Bench, BadDeed(0), RING,
            bench.trial(), (TWO, (ROW[0],)),
        ):
            self.assertIs(bench == other, False)
            self.assertIs(other == bench, False)
            self.assertIs(bench != other, True)
            self.assertIs(other != bench, True)
        self.assertIs(bench == LIKE, False)
        self.assertIs(TWO == LIKE, False)

    def test_other_operators(self):
        signs = [
            operator.lt, operator.le, operator.gt, operator.ge, operator.add, operator.sub, operator.mul,
            operator.floordiv, operator.truediv, operator.mod, operator.pow, operator.and_, operator.or_,
            operator.xor, operator.lshift, operator.rshift, operator.matmul,
        ]
        for value in (Bench(TWO), TWO):
            for other in (None, 1, "x", (), [], value, Bench(TWO), TWO, ROW[0]):
                for sign in signs:
                    if not (sign == operator.mod and isinstance(other, str)):
                        with self.assertRaises(TypeError):
                            sign(value, other)
                        with self.assertRaises(TypeError):
                            sign(other, value)
            for sign in (operator.neg, operator.pos, operator.invert):
                with self.assertRaises(TypeError):
                    sign(value)
            with self.assertRaises(TypeError):
                0 in value
            with self.assertRaises(TypeError):
                value[0]


class Trials(Refusing):
    def begun(self):
        bench = Bench(TWO)
        bench.do_all(ROW[:4])
        bench.undo()
        bench.undo()
        return bench

    def test_the_bench_itself(self):
        bench = self.begun()
        before = state(bench)
        with bench.trial() as same:
            self.assertIs(same, bench)
            self.assertEqual(state(bench), before)
            same.do(("twist", (3,)))
            self.assertEqual(bench.deeds(), (ROW[0], ROW[1], ("twist", (3,))))
            self.nothing_left(bench.redo)
        self.assertEqual(state(bench), before)
        self.assertEqual(bench.redo(), ROW[2])

    def test_each_change_is_taken_back(self):
        def nothing(bench):
            pass

        def undone(bench):
            while len(bench):
                bench.undo()

        def redone(bench):
            bench.redo()
            bench.redo()

        def more(bench):
            bench.do(("twist", (0,)))
            bench.do_all([("twist", (1,)), ("twist", (0,))])
            bench.undo()

        def mixed(bench):
            bench.redo()
            bench.undo()
            bench.undo()
            more(bench)

        for change in (nothing, undone, redone, more, mixed):
            bench = self.begun()
            before = state(bench)
            with bench.trial() as same:
                change(same)
            self.assertEqual(state(bench), before)
            with self.assertRaises(Fault):
                with bench.trial() as same:
                    change(same)
                    raise Fault()
            self.assertEqual(state(bench), before)
            self.assertIs(tried(bench, change), None)
            self.assertEqual(state(bench), before)

    def test_an_exception_passes(self):
        bench = self.begun()
        before = state(bench)
        for error in (Fault("why"), KeyboardInterrupt(), NothingLeft(), StopIteration(), BadDeed(7)):
            with self.assertRaises(type(error)) as caught:
                with bench.trial() as same:
                    same.redo()
                    raise error
            self.assertIs(caught.exception, error)
            self.assertEqual(state(bench), before)
        with self.assertRaises(BadDeed):
            with bench.trial() as same:
                same.undo()
                same.do(None)
        self.assertEqual(state(bench), before)

    def test_out_of_the_block_by_other_ways(self):
        bench = self.begun()
        before = state(bench)
        for turn in range(3):
            with bench.trial():
                bench.undo()
                if turn < 2:
                    continue
                break

        def left():
            with bench.trial() as same:
                return same.undo()

        self.assertEqual(left(), ROW[1])
        self.assertEqual(state(bench), before)

    def test_a_trial_in_a_trial(self):
        bench = self.begun()
        outer = state(bench)
        with bench.trial() as same:
            same.redo()
            inner = state(bench)
            with same.trial() as again:
                self.assertIs(again, bench)
                again.undo()
                again.do(("twist", (3,)))
                with self.assertRaises(Fault):
                    with again.trial():
                        bench.undo()
                        raise Fault()
                self.assertEqual(bench.deeds()[-1], ("twist", (3,)))
            self.assertEqual(state(bench), inner)
            self.assertEqual(tried(bench, lambda one: one.redo()), ROW[3])
            self.assertEqual(state(bench), inner)
        self.assertEqual(state(bench), outer)

    def test_the_state_is_that_when_the_block_begins(self):
        bench = self.begun()
        trial = bench.trial()
        bench.redo()
        before = state(bench)
        with trial as same:
            same.undo()
            within = state(bench)
            with trial as again:
                self.assertIs(again, bench)
                again.undo()
            self.assertEqual(state(bench), within)
        self.assertEqual(state(bench), before)
        bench.undo()
        before = state(bench)
        with trial:
            bench.undo()
        self.assertEqual(state(bench), before)

    def test_other_benches_are_not_touched(self):
        one, other = self.begun(), self.begun()
        with one.trial():
            one.undo()
            other.redo()
        self.assertEqual(len(one), 2)
        self.assertEqual(len(other), 3)

    def test_tried(self):
        bench = self.begun()
        before = state(bench)
        met = []
        self.assertIs(tried(bench, met.append), None)
        self.assertEqual(len(met), 1)
        self.assertIs(met[0], bench)
        result = [object()]
        self.assertIs(tried(bench, lambda one: result), result)
        self.assertEqual(by_names(tried, bench, lambda one: (one.undo(), len(one), one.web.stars)), (ROW[1], 1, done(TWO, ROW[0]).stars))
        self.assertEqual(tried(function=lambda one: one.redo(), bench=bench), ROW[2])

        def failing(one):
            one.undo()
            raise Fault("why")

        with self.assertRaises(Fault):
            tried(bench, failing)
        self.assertEqual(state(bench), before)


class TheFile(unittest.TestCase):
    def test_where_it_is_defined(self):
        self.assertEqual(Bench.__module__, "samerounds.bench")
        self.assertEqual(tried.__module__, "samerounds.bench")
        self.assertEqual(module.tried, tried)
        self.assertEqual(arguments(tried), ("bench", "function"))
        for name, names in [
            ("__init__", ("self", "web")), ("__len__", ("self",)), ("deeds", ("self",)), ("do", ("self", "deed")),
            ("do_all", ("self", "deeds")), ("undo", ("self",)), ("redo", ("self",)), ("way_home", ("self",)),
            ("trial", ("self",)), ("__eq__", ("self", "other")),
        ]:
            self.assertEqual(arguments(vars(Bench)[name]), names)
        self.assertIs(type(vars(Bench)["web"]), property)

    def test_webs_are_left_alone(self):
        for web in (RING, LIKE_TIES, LONE_TIES, WHEEL, MIXED):
            stars = web.stars
            bench = Bench(web)
            for deed in (("twist", (0, 1)), ("join", (0,), (1,)), ("twist", (0,))):
                if can(bench.web, deed):
                    bench.do(deed)
            bench.way_home()
            self.assertEqual(web.stars, stars)
            self.assertEqual(bench.first.stars, stars)


if __name__ == "__main__":
    unittest.main()

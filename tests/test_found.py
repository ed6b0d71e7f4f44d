import time
import unittest

from samerounds import found as module
from samerounds.errors import BadNumber
from samerounds.found import count_kinds, webs_of
from samerounds.rounds import same_rounds
from samerounds.webs import Web
from samples import LIKE, RING, all_webs, arguments, by_names, of, plain_rounds


class WebsOf(unittest.TestCase):
    def test_by_hand(self):
        self.assertEqual(by_names(webs_of, 0), (Web([]),))
        self.assertEqual(by_names(webs_of, 1), (of("0"), of("0", "0")))
        self.assertEqual(by_names(webs_of, 2), (
            of("0", "0", "1"), of("0", "0", "1", "1"), of("0", "01"), of("0", "01", "1"), of("0", "1"),
            of("0", "1", "1"), of("01"), of("01", "01"), of("01", "1"),
        ))

    def test_each_way_to_meet(self):
        for many in range(5):
            found = webs_of(many)
            self.assertIs(type(found), tuple)
            self.assertEqual(found, tuple(all_webs(many)))
            stars = [web.stars for web in found]
            self.assertEqual(stars, sorted(set(stars)))
            self.assertEqual({len(web) for web in found}, {many})
            self.assertTrue(all(type(web) is Web for web in found))
            self.assertEqual(webs_of(many), found)

    def test_how_many(self):
        self.assertEqual([len(webs_of(many)) for many in range(5)], [1, 2, 9, 66, 712])


class CountKinds(unittest.TestCase):
    def test_against_looking_at_each_set(self):
        for many in range(5):
            kinds = {plain_rounds(web) for web in all_webs(many)}
            self.assertEqual(by_names(count_kinds, many), len(kinds))
            self.assertIs(type(count_kinds(many)), int)

    def test_how_many(self):
        # One kind of two ties for each of: no round, the one, the other, both a loop, both together.
        self.assertEqual([count_kinds(many) for many in range(5)], [1, 2, 5, 16, 67])

    def test_one_of_each_kind(self):
        for many in range(4):
            firsts = []
            for web in webs_of(many):
                if not any([same_rounds(web, first) for first in firsts]):
                    firsts.append(web)
            self.assertEqual(count_kinds(many), len(firsts))


class Refused(unittest.TestCase):
    def test_no_number(self):
        for value in (
            None, True, False, -1, 5, 6, 12, 10 ** 999, -10 ** 999, "0", "4", b"0", "", (), (0,), [0], {}, {0}, object(), len,
            range(3), LIKE, RING, Web([]),
        ):
            for call in (webs_of, count_kinds):
                with self.assertRaises(BadNumber) as caught:
                    call(value)
                self.assertIs(caught.exception.value, value)
                with self.assertRaises(BadNumber) as caught:
                    call(many=value)
                self.assertIs(caught.exception.value, value)


class TheFile(unittest.TestCase):
    def test_where_it_is_defined(self):
        for function in (webs_of, count_kinds):
            self.assertEqual(getattr(module, function.__name__).__module__, "samerounds.found")
            self.assertEqual(arguments(function), ("many",))

    def test_in_reasonable_time(self):
        begun = time.process_time()
        webs_of(4)
        count_kinds(4)
        self.assertLess(time.process_time() - begun, 4)


if __name__ == "__main__":
    unittest.main()

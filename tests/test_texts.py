import re
import time
import unittest

from samerounds import texts as module
from samerounds.deeds import deeds_of
from samerounds.errors import BadDeed, BadStars, BadText
from samerounds.texts import deed_text, read_deed, read_web, web_text
from samerounds.webs import Web, web_of
from samples import (
    GREAT, LIKE, LIKE_TIES, LONE_TIES, LOOPS, MIXED, NO_SETS, RING, all_sets, all_webs, arguments, by_names, distinct_webs, of,
)

ALL = tuple(range(12))
TRIANGLE = of("01", "02", "12")
NUMBER = "(?:0|[1-9][0-9]?)"
ROW = f"{NUMBER}(?: {NUMBER})*"
WEB_FORM = re.compile(f"(?:{ROW}(?:, {ROW})*)?")
DEED_FORM = re.compile(f"(?:part|twist) (?:{ROW})?|join (?:{ROW})?, (?:{ROW})?")

# With one of these behind it, each text that can go on is one of the form.
WEB_ENDS = ["", "0", " 0"]
DEED_ENDS = ["", "0", "0, ", *[word[at:] for word in ("part ", "twist ", "join , ") for at in range(len(word))]]

NO_TEXTS = [
    None, True, False, 0, 1, 10 ** 999, b"", b"0", b"part 0", [], ["0"], (), ("0",), {}, {"0"}, object(), len, str, LIKE, RING,
    ("part", (0,)),
]

SIGNS = "0129, -+_.pajtn\nP)x"


def form_place(text, form, ends):
    """The place of the first sign at which no text of a form goes on, or of the end, or None."""
    for at in range(len(text)):
        if not any(form.fullmatch(text[:at + 1] + end) for end in ends):
            return at
    return None if form.fullmatch(text) else len(text)


def web_place(text):
    return form_place(text, WEB_FORM, WEB_ENDS)


def deed_place(text):
    """The place for which a text is no deed's, or None: also that behind a number that cannot stand."""
    place = form_place(text, DEED_FORM, DEED_ENDS)
    before = -1
    for match in re.finditer(",|[1-9][0-9]|[0-9]", text if place is None else text[:place]):
        if match.group() == ",":
            before = -1
        elif not before < int(match.group()) < 12:
            return match.end()
        else:
            before = int(match.group())
    return place


def changed(text):
    """What comes of a text by cutting it off, and by leaving out, changing and putting in a sign."""
    for at in range(len(text) + 1):
        yield text[:at]
        yield text[:at] + text[at + 1:]
        for sign in SIGNS:
            yield text[:at] + sign + text[at:]
            yield text[:at] + sign + text[at + 1:]


def plain_text(sets):
    return ", ".join(" ".join(map(str, some)) for some in sets)


class Texts(unittest.TestCase):
    def refused(self, call, text, place):
        with self.assertRaises(BadText) as caught:
            call(text)
        self.assertEqual(caught.exception.place, place, text)
        self.assertIs(type(caught.exception.place), type(place))
        with self.assertRaises(BadText):
            call(text=text)


class OfWebs(Texts):
    def test_by_hand(self):
        for web, text in [
            (TRIANGLE, "0 1, 0 2, 1 2"), (Web([]), ""), (of("0"), "0"), (of("0", "0"), "0, 0"), (of("01"), "0 1"),
            (of("0", "1"), "0, 1"), (LOOPS, "0 1 2 3 4 5 6 7 8 9 10 11"),
            (RING, "0 1, 0 11, 1 2, 2 3, 3 4, 4 5, 5 6, 6 7, 7 8, 8 9, 9 10, 10 11"),
            (LIKE_TIES, "0 1 2 3 4 5 6 7 8 9 10 11, 0 1 2 3 4 5 6 7 8 9 10 11"),
        ]:
            self.assertEqual(by_names(web_text, web), text)
            self.assertIs(type(web_text(web)), str)
            self.assertEqual(by_names(read_web, text), web)
            self.assertIs(type(read_web(text)), Web)

    def test_there_and_back(self):
        webs = [*GREAT, *distinct_webs(), *[web for many in range(5) for web in all_webs(many)]]
        for web in webs:
            text = web_text(web)
            self.assertEqual(text, plain_text(web.stars))
            self.assertEqual(read_web(text), web)
        self.assertEqual(len({web_text(web) for web in all_webs(4)}), 712)

    def test_places_by_hand(self):
        for text, place in [
            (" ", 0), ("x", 0), (",", 0), ("-1", 0), ("\n", 0), ("0 ", 2), ("0,", 2), ("0, ", 3), ("0 1, 0 2, 1 2,", 14),
            ("0,0", 2), ("0 ,0", 2), ("0  1", 2), ("0,  1", 3), ("00", 1), ("01", 1), ("0 01", 3), ("0, 00", 4), ("100", 2),
            ("0 123", 4), ("0 1\n", 3), ("0 1 ,", 4), ("0;1", 1), ("(0)", 0), ("0, 0)", 4), ("0,\n0", 2), ("0 1, , 2", 5),
            ("0 +1", 2), ("1_0", 1), ("0\n1", 1), ("0 1,", 4), ("0 x", 2), ("0 1x", 3), ("0 99 100", 7), ("0a", 1),
        ]:
            self.refused(read_web, text, place)

    def test_changed_texts(self):
        seen = set()
        for web in (TRIANGLE, of("0"), of("0", "01", "1"), LIKE_TIES, web_of([(0, 1), (1, 2), (2, 3)] * 4)):
            for text in changed(web_text(web)):
                place = web_place(text)
                seen.add(place is None)
                if place is not None:
                    self.refused(read_web, text, place)
                    continue
                stars = [tuple(map(int, star.split(" "))) for star in text.split(", ")] if text else []
                try:
                    told = Web(stars)
                except BadStars as error:
                    with self.assertRaises(BadStars) as caught:
                        read_web(text)
                    self.assertEqual(caught.exception.place, error.place, text)
                else:
                    self.assertEqual(read_web(text), told)
                    self.assertEqual(web_text(told), text)
        self.assertEqual(seen, {True, False})

    def test_errors_of_webs_come_behind(self):
        for text, place in [
            ("12", 0), ("0 99", 0), ("1 0", 0), ("0 0", 0), ("0, 0, 0", 2), ("0 1, 0", 1), ("1", 1), ("0, 2", 2), ("0 2, 0 1", 1),
            ("0 1, 0 2, 1 2, 12", 3), ("11", 1),
        ]:
            with self.assertRaises(BadStars) as caught:
                read_web(text)
            self.assertEqual(caught.exception.place, place, text)
            # A fault of the text is told first, wherever it is.
            self.refused(read_web, text + ", ", len(text) + 2)
            self.refused(read_web, text + "x", len(text))

    def test_no_text(self):
        for value in [*NO_TEXTS, Web([])]:
            self.refused(read_web, value, None)

    def test_long_texts(self):
        begun = time.process_time()
        self.refused(read_web, "0 " * 20000, 40000)
        self.refused(read_deed, "part" + " 0" * 20000, 8)
        self.refused(read_web, "0" * 20000, 1)
        self.refused(read_web, "9" * 20000, 2)
        self.refused(read_deed, "part " + "9" * 20000, 7)
        with self.assertRaises(BadStars) as caught:
            read_web(", ".join(["0"] * 20000))
        self.assertEqual(caught.exception.place, 2)
        self.assertLess(time.process_time() - begun, 5)


class OfDeeds(Texts):
    def test_by_hand(self):
        for deed, text in [
            (("part", (0, 1)), "part 0 1"), (("twist", (1, 2)), "twist 1 2"), (("join", (0, 1), (2, 3)), "join 0 1, 2 3"),
            (("join", (), (0,)), "join , 0"), (("join", (0,), ()), "join 0, "), (("part", ()), "part "), (("twist", ()), "twist "),
            (("join", (), ()), "join , "), (("part", ALL), "part 0 1 2 3 4 5 6 7 8 9 10 11"),
            (("join", (5,), (0, 11)), "join 5, 0 11"), (("join", (3,), (3,)), "join 3, 3"), (("join", (10,), (1, 2)), "join 10, 1 2"),
        ]:
            self.assertEqual(by_names(deed_text, deed), text)
            self.assertIs(type(deed_text(deed)), str)
            self.assertEqual(by_names(read_deed, text), deed)
            self.assertIs(type(read_deed(text)), tuple)

    def test_there_and_back(self):
        sets = all_sets(12)
        deeds = [(word, some) for word in ("part", "twist") for some in sets]
        deeds += [("join", one, other) for one in sets[::101] for other in sets[::97]]
        deeds += [deed for web in distinct_webs(4) for deed in deeds_of(web)]
        for deed in deeds:
            text = deed_text(deed)
            self.assertEqual(text, f"{deed[0]} {plain_text(deed[1:])}")
            self.assertEqual(read_deed(text), deed)

    def test_places_by_hand(self):
        for text, place in [
            # The word.
            ("", 0), ("x", 0), (" part 0", 0), ("Part 0", 0), ("p", 1), ("px", 1), ("par", 3), ("part", 4), ("part0", 4),
            ("parts 0", 4), ("part,", 4), ("t", 1), ("twixt 0", 3), ("twist", 5), ("j", 1), ("joint 0", 4), ("join", 4), ("pjoin", 1),
            ("0 1", 0), (", 0", 0), ("part\n0", 4), ("PART 0", 0), ("\npart 0", 0),
            # What stands between.
            ("part  0", 5), ("part 0 ", 7), ("part 0  1", 7), ("part 0,", 6), ("part 0, 1", 6), ("part ,", 5), ("twist 0,1", 7),
            ("part 0\n", 6), ("part x", 5), ("part 0x", 6), ("part -1", 5), ("part +1", 5), ("join ", 5), ("join 0", 6), ("join 0 ", 7),
            ("join 0,", 7), ("join 0,1", 7), ("join 0 , 1", 7), ("join 0, 1,", 9), ("join 0, 1, 2", 9), ("join ,", 6), ("join ,0", 6),
            ("join , 0 ", 9), ("join  , 0", 5), ("join ,  0", 7), ("join 0,  1", 8), ("join , ,", 7), ("join 0, 1 ", 10), ("join 0, 1x", 9),
            # Numbers.
            ("part 12", 7), ("part 99", 7), ("part 120", 7), ("part 110", 7), ("part 00", 6), ("part 01", 6), ("part 0 0", 8),
            ("part 1 0", 8), ("part 3 2", 8), ("part 3 05", 8), ("part 5 11", None), ("part 5 1", 8), ("part 5 1 7", 8), ("part 5 12", 9),
            ("part 0 1 1", 10), ("part 10 9", 9), ("part 10 10", 10), ("part 11 11 11", 10), ("part 12 x", 7), ("part 2 1x", 8),
            ("twist 0 12", 10), ("join 12, 0", 7), ("join 1 0, 2", 8), ("join 0, 12", 10), ("join 0, 3 3", 11), ("join 5, 0 11", None),
            ("join 3, 2", None), ("join 0 12, 5 5", 9), ("part 0 1 2 13", 13), ("join , 20", 9), ("join , 1 1", 10), ("part 11 5", 9),
            ("part 11 ", 8),
        ]:
            self.assertEqual(deed_place(text), place, text)
            if place is None:
                self.assertEqual(deed_text(read_deed(text)), text)
            else:
                self.refused(read_deed, text, place)

    def test_changed_texts(self):
        seen = set()
        for text in (
            "part 0 1", "part ", "twist 1 2", "twist 0 9 10 11", "join 0 1, 2 3", "join , 0", "join 0, ", "join , ", "join 10 11, 1 10",
        ):
            for other in changed(text):
                place = deed_place(other)
                seen.add(place is None)
                if place is None:
                    deed = read_deed(other)
                    self.assertEqual(deed_text(deed), other)
                else:
                    self.refused(read_deed, other, place)
        self.assertEqual(seen, {True, False})

    def test_no_text(self):
        for value in NO_TEXTS:
            self.refused(read_deed, value, None)

    def test_no_form_of_a_deed(self):
        values = [
            None, True, 0, "", "part 0", b"part", [], {}, set(), (), object(), len, RING, LIKE, (LIKE, (0,)), ["part", (0,)],
            ("part",), ("twist",), ("join",), ("join", (0,)), ("part", (0,), (1,)), ("twist", (0,), (1,)), ("join", (0,), (1,), (2,)),
            ("Part", (0,)), ("parts", (0,)), ("", (0,)), (b"part", (0,)), (None, (0,)), (("part",), (0,)), ("turn", (0,)),
            ("part", (12,)), ("twist", tuple(range(13))), ("join", (0,), (12,)), ("join", (-1,), (0,)), ("join", (1, 0), (2,)),
            ("join", (0,), (2, 2)), ("join", ((0,), (1,))), ("part", "0"), ("web", ()), ("empty",), ("join", (0,), (1,), ()),
        ]
        for value in NO_SETS:
            # A few of these are sets of twelve ties.
            if not (type(value) is tuple and value in ((3,), (0, 3))):
                values += [("part", value), ("twist", value), ("join", (0,), value), ("join", value, ()), ("join", value, value)]
        for value in values:
            with self.assertRaises(BadDeed) as caught:
                deed_text(value)
            self.assertEqual(caught.exception.place, 0)
            self.assertIs(type(caught.exception.place), int)
            with self.assertRaises(BadDeed):
                deed_text(deed=value)


class TheFile(unittest.TestCase):
    def test_where_it_is_defined(self):
        for function, name in [(web_text, "web"), (read_web, "text"), (deed_text, "deed"), (read_deed, "text")]:
            self.assertEqual(getattr(module, function.__name__).__module__, "samerounds.texts")
            self.assertEqual(arguments(function), (name,))

    def test_a_web_is_left_alone(self):
        stars = MIXED.stars
        web_text(MIXED)
        self.assertEqual(MIXED.stars, stars)
        self.assertEqual(read_web(web_text(LONE_TIES)), LONE_TIES)


if __name__ == "__main__":
    unittest.main()

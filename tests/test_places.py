"""Points 40, 41 and 42: sealpress.places."""

import unittest

from sealpress.errors import NoSign, Unread
from sealpress.places import place_of, put
from sealpress.steps import begin, run
from tests.to_try import ALL, OTHERS, PLAIN, made_texts, some_states

PLACES = ["text", "bare", "row", "quoted", "said"]
BOXES = [(), ("a",), ("asis",), ("a", "b"), ("a", "asis")]
# signs by their numbers
MARKS = {"&": "&05;", "<": "&27;", "\"": "&02;"}


def code_of(place, sign):
    """A sign at a place, told by a table of its own."""
    if place == "text":
        return MARKS[sign] if sign in "<&" else sign
    if place == "quoted":
        return MARKS[sign] if sign in "\"&" else sign
    if place == "bare":
        return sign if sign in PLAIN else "~" + str(ALL.index(sign)).zfill(2)
    if place == "row":
        return "\\" + sign if sign in "\\,)" else sign
    if sign in "\"&":
        return MARKS[sign]
    return "\\" + sign if sign in "\\'" else sign


def comes_back(state, place, value):
    """Whether what is put at a place leads from a state to itself and tells the value's signs alone."""
    try:
        return run(state, put(place, value)) == (state, [("sign", sign) for sign in value])
    except Unread:
        return False


class PlaceOfTest(unittest.TestCase):
    def test_each_mode(self):
        for mode in ["text", "bare", "row", "quoted"]:
            for opens in BOXES:
                self.assertEqual(place_of((mode, "", opens, "")), mode)
        for mode in ["open", "name", "slash", "shut", "gap", "attr", "is", "bang", "code", "stroke", "done", "mark",
                     "qmark", "asis"]:
            for opens in BOXES:
                for word in ["", "a", "2", "<"]:
                    self.assertIsNone(place_of((mode, word, opens, "")))

    def test_each_talk(self):
        for talk, place in [("between", None), ("word", None), ("said", "said"), ("stroke", None)]:
            for opens in BOXES:
                self.assertEqual(place_of(("talk", "", opens, talk)), place)
                for word in ["", "2", "27"]:
                    self.assertIsNone(place_of(("tmark", word, opens, talk)))

    def test_behind_texts(self):
        for text, place in [("", "text"), ("<a>x", "text"), ("<a/>", "text"), ("<a b:", "bare"), ("<a b:x~00", "bare"),
                            ("<a b(", "row"), ("<a b(x,", "row"), ("<a b=\"", "quoted"), ("<a b=\"&02;", "quoted"),
                            ("<a b!\"x '", "said"), ("<a b!\"'\\'", "said"), ("<a b!\"&06;", "said"), ("<", None),
                            ("<a", None), ("<a ", None), ("<a b", None), ("<a b:~", None), ("<a b:~0", None),
                            ("<a b()", None), ("<a b(\\", None), ("<a b=", None), ("<a b=\"\"", None),
                            ("<a b=\"&", None),
                            ("<a b!", None), ("<a b!\"", None), ("<a b!\"x", None), ("<a b!\"''", None),
                            ("<a b!\"'\\", None), ("<a b!\"'&", None), ("<a/", None), ("</", None), ("&", None),
                            ("<asis>", None), ("<asis></", None)]:
            self.assertEqual(place_of(run(begin(), text)[0]), place, text)


class PutTest(unittest.TestCase):
    def refused_at(self, place, value):
        with self.assertRaises(NoSign) as caught:
            put(place, value)
        return caught.exception.at

    def test_each_sign_at_each_place(self):
        for place in PLACES:
            for sign in ALL:
                self.assertEqual(put(place, sign), code_of(place, sign))
                self.assertEqual(put(place, "x" + sign + sign), "x" + code_of(place, sign) * 2)

    def test_whole_values(self):
        for place in PLACES:
            for value in ["", ALL, ALL[::-1], "&27;", "\\\"", "'\\'"] + made_texts(50, 40):
                self.assertEqual(put(place, value), "".join([code_of(place, sign) for sign in value]))

    def test_values_of_two_thousand_signs(self):
        for place in PLACES:
            for sign in "x&\\~<":
                self.assertEqual(put(place, sign * 2000), code_of(place, sign) * 2000)

    def test_no_sign(self):
        for place in PLACES:
            for sign in "%\t\n\x00\x7f":
                self.assertEqual(self.refused_at(place, sign), 0)
                self.assertEqual(self.refused_at(place, "ab" + sign + "c" + sign), 2)
            for thing in OTHERS + [["a"], b"a"]:
                if not isinstance(thing, str):
                    self.assertEqual(self.refused_at(place, thing), 0)


class ThereAndBackTest(unittest.TestCase):
    def setUp(self):
        self.values = ["", ALL, "\\", "&", "&27;", "'\"", "</a>", "~00", ",)", "\\\\'"] + made_texts(20, 20)

    def test_what_is_put_at_a_place_comes_back_and_tells_the_value(self):
        places = {}
        for state in some_states():
            place = place_of(state)
            if place is not None:
                places[place] = True
                for value in self.values:
                    self.assertTrue(comes_back(state, place, value), (state, value))
        self.assertEqual(sorted(places), sorted(PLACES))

    def test_each_sign_comes_back(self):
        for text in ["", "<a b:", "<a b(", "<a b=\"", "<a b!\"'"]:
            state = run(begin(), text)[0]
            for sign in ALL:
                for value in [sign, sign + sign, "\\" + sign, "&" + sign, sign + "05;"]:
                    self.assertTrue(comes_back(state, place_of(state), value), (text, value))

    def test_without_a_place_no_way_does_so_for_all_values(self):
        values = ["", "a", "<", "&", "\\", "'", "\"", "A", ",", " ", "0", ";", ">"]
        for state in some_states():
            if place_of(state) is None:
                for place in PLACES:
                    self.assertFalse(all([comes_back(state, place, value) for value in values]), (state, place))

    def test_two_values_are_their_signs_together(self):
        for place in PLACES:
            for one in self.values:
                for other in self.values:
                    self.assertEqual(put(place, one) + put(place, other), put(place, one + other))


if __name__ == "__main__":
    unittest.main()

"""Points 3 and 10: sealpress.signs."""

import string
import unittest

from sealpress.errors import NoSign
from sealpress.signs import SIGNS, figures_of, is_name, is_text, need_text, number_of, sign_of

LEFT_OUT = chr(37)
ALL = "".join([chr(number) for number in range(32, 127) if number != 37])
FOREIGN = ["\t", "\n", "\r", "\0", "\x1f", "\x7f", LEFT_OUT]
NO_TEXTS = [None, True, False, 0, 7, -1, [], ["a"], (), ("a",), {}, {"a": "b"}, b"a", 1.5]


class SignsTest(unittest.TestCase):
    def test_signs_are_the_94_in_their_order(self):
        self.assertIsInstance(SIGNS, str)
        self.assertEqual(len(SIGNS), 94)
        self.assertEqual(SIGNS, ALL)
        self.assertNotIn(LEFT_OUT, SIGNS)
        self.assertEqual(SIGNS[4:6], "$&")

    def test_each_sign_to_its_number_and_back(self):
        for number, sign in enumerate(ALL):
            self.assertEqual(number_of(sign), number)
            self.assertEqual(sign_of(number), sign)
        self.assertEqual((number_of(" "), number_of("&"), number_of("<"), number_of("~")), (0, 5, 27, 93))

    def test_the_two_figures_of_each_number(self):
        self.assertEqual(figures_of(7), "07")
        self.assertEqual((figures_of(0), figures_of(9), figures_of(10), figures_of(93)), ("00", "09", "10", "93"))
        for number in range(94):
            self.assertEqual(figures_of(number), str(number // 10) + str(number % 10))


class IsTextTest(unittest.TestCase):
    def test_texts(self):
        for thing in ["", " ", "a", ALL, ALL * 30, "<a b:c/>", "{x}", "\\", "\"'"]:
            self.assertIs(is_text(thing), True)

    def test_each_sign_by_itself(self):
        for number in range(128):
            self.assertIs(is_text(chr(number)), chr(number) in ALL)

    def test_texts_with_a_foreign_sign(self):
        for sign in FOREIGN:
            for thing in [sign, sign + "abc", "ab" + sign + "c", "abc" + sign]:
                self.assertIs(is_text(thing), False)

    def test_what_is_no_text_at_all(self):
        for thing in NO_TEXTS:
            self.assertIs(is_text(thing), False)


class IsNameTest(unittest.TestCase):
    def test_names(self):
        for letter in string.ascii_lowercase:
            self.assertIs(is_name(letter), True)
        for thing in ["ab", "abcdefgh", "zzzzzzzz", "asis", "each", "end"]:
            self.assertIs(is_name(thing), True)

    def test_length(self):
        for length in range(30):
            self.assertIs(is_name("a" * length), 1 <= length <= 8)

    def test_another_sign_at_each_place(self):
        for number in range(128):
            sign = chr(number)
            good = sign in string.ascii_lowercase
            self.assertIs(is_name(sign), good)
            for length in (1, 3, 7):
                for at in range(length + 1):
                    thing = "q" * at + sign + "q" * (length - at)
                    self.assertIs(is_name(thing), good, thing)

    def test_what_is_no_text_at_all(self):
        for thing in NO_TEXTS + [["a", "b"], ("a", "b")]:
            self.assertIs(is_name(thing), False)


class NeedTextTest(unittest.TestCase):
    def refused_at(self, thing):
        with self.assertRaises(NoSign) as caught:
            need_text(thing)
        return caught.exception.at

    def test_a_text_is_given_back(self):
        for text in ["", " ", "abc", ALL, ALL * 30]:
            self.assertEqual(need_text(text), text)

    def test_refused_at_the_first_foreign_sign(self):
        for sign in FOREIGN:
            for at in (0, 1, 5, 2000):
                self.assertEqual(self.refused_at("a" * at + sign), at)
                self.assertEqual(self.refused_at("a" * at + sign + "bc" + sign), at)
        self.assertEqual(self.refused_at("ab\n" + LEFT_OUT + "\t"), 2)

    def test_what_is_no_text_at_all_is_refused_at_0(self):
        for thing in NO_TEXTS:
            self.assertEqual(self.refused_at(thing), 0)

    def test_what_is_handed_in_stays(self):
        things = ["a", ["b"]]
        self.assertEqual((is_text(things), is_name(things), self.refused_at(things)), (False, False, 0))
        self.assertEqual(things, ["a", ["b"]])


if __name__ == "__main__":
    unittest.main()

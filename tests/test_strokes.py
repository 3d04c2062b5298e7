"""Points 12 and 14: sealpress.strokes."""

import unittest

from sealpress.errors import NoCode
from sealpress.strokes import stroked, unstroked
from tests.to_try import ALL, long_texts, made_texts, short_texts

SHUTS = ["", ",", ",)", "'", "\\", "\\,", ",\\)", ",,", "a", "0;", " ", "\\\\", ALL]


class StrokedTest(unittest.TestCase):
    def test_the_example(self):
        self.assertEqual(stroked("a,b\\", ",)"), "a\\,b\\\\")
        self.assertEqual(unstroked("a\\,b\\\\"), "a,b\\")

    def test_each_sign_by_itself(self):
        for sign in ALL:
            self.assertEqual(stroked(sign, ""), "\\\\" if sign == "\\" else sign)
            self.assertEqual(stroked(sign, sign), "\\" + sign)
            self.assertEqual(stroked(sign, sign + sign), "\\" + sign)
            self.assertEqual(stroked(sign, ALL), "\\" + sign)

    def test_a_stroke_in_shut_changes_nothing(self):
        for text in made_texts(50, 40):
            for shut in SHUTS:
                self.assertEqual(stroked(text, shut + "\\"), stroked(text, shut))
                self.assertEqual(stroked(text, "\\" + shut), stroked(text, shut))

    def test_a_text_with_nothing_to_be_coded_stays(self):
        for text in ["", "abc", "a b", "&05;", "~00"]:
            self.assertEqual(stroked(text, ",)"), text)
            self.assertEqual(unstroked(text), text)

    def test_each_shut_sign_has_a_stroke_ahead(self):
        for text in made_texts(60, 60):
            for shut in SHUTS:
                coded = stroked(text, shut)
                at = 0
                while at < len(coded):
                    if coded[at] == "\\":
                        at += 1
                    else:
                        self.assertNotIn(coded[at], shut)
                    at += 1

    def test_read_back_to_itself(self):
        for text in made_texts(100, 60) + long_texts() + [ALL]:
            for shut in SHUTS:
                self.assertEqual(unstroked(stroked(text, shut)), text)

    def test_two_texts_never_have_one_code(self):
        texts = short_texts("\\,)a", 5)
        for shut in ["", ",", "\\", ",)", "\\a"]:
            self.assertEqual(len({stroked(text, shut) for text in texts}), len(texts))


class UnstrokedTest(unittest.TestCase):
    def refused_at(self, text):
        with self.assertRaises(NoCode) as caught:
            unstroked(text)
        return caught.exception.at

    def test_a_stroke_and_whatever_sign_is_that_sign(self):
        for sign in ALL:
            self.assertEqual(unstroked("\\" + sign), sign)
            self.assertEqual(unstroked("a\\" + sign + "b"), "a" + sign + "b")

    def test_a_stroke_as_the_last_sign_is_refused(self):
        self.assertEqual(self.refused_at("\\"), 0)
        self.assertEqual(self.refused_at("abc\\"), 3)
        self.assertEqual(self.refused_at("a\\,\\"), 3)

    def test_strokes_at_the_end_are_paired(self):
        for many in range(12):
            text = "ab" + "\\" * many
            if many % 2:
                self.assertEqual(self.refused_at(text), 1 + many)
            else:
                self.assertEqual(unstroked(text), "ab" + "\\" * (many // 2))

    def test_longer_texts_are_read(self):
        self.assertEqual(unstroked("\\," * 5000), "," * 5000)
        self.assertEqual(self.refused_at("\\," * 5000 + "\\"), 10000)


if __name__ == "__main__":
    unittest.main()

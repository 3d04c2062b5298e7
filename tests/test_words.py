"""Points 13 and 14: sealpress.words."""

import unittest

from sealpress.errors import NoCode
from sealpress.words import WORDSIGNS, unworded, worded
from tests.to_try import ALL, long_texts, made_texts, short_texts

PLAIN = "abcdefghijklmnopqrstuvwxyz0123456789-"


class WordedTest(unittest.TestCase):
    def test_word_signs_in_their_order(self):
        self.assertEqual(WORDSIGNS, PLAIN)

    def test_the_example(self):
        self.assertEqual(worded("a b"), "a~00b")
        self.assertEqual(unworded("a~00b"), "a b")

    def test_each_sign_worded_and_read_back(self):
        for number, sign in enumerate(ALL):
            code = "~" + str(number).zfill(2)
            self.assertEqual(worded(sign), sign if sign in PLAIN else code)
            self.assertEqual(worded("x" + sign + "9"), "x" + (sign if sign in PLAIN else code) + "9")
            self.assertEqual(unworded(worded(sign)), sign)
            # a code of a word sign is read, too
            self.assertEqual(unworded(code), sign)
            self.assertEqual(unworded("a" + code + code + "-"), "a" + sign + sign + "-")

    def test_a_text_with_nothing_to_be_coded_stays(self):
        for text in ["", "a", "abc-09", PLAIN, "-" * 2000]:
            self.assertEqual(worded(text), text)
            self.assertEqual(unworded(text), text)

    def test_read_back_to_itself(self):
        for text in made_texts(200, 60) + long_texts() + [ALL]:
            coded = worded(text)
            self.assertEqual(unworded(coded), text)
            self.assertEqual(set(coded) - set(PLAIN + "~"), set())

    def test_two_texts_never_have_one_code(self):
        texts = short_texts("~0 a9", 4)
        self.assertEqual(len({worded(text) for text in texts}), len(texts))


class UnwordedTest(unittest.TestCase):
    def refused_at(self, text):
        with self.assertRaises(NoCode) as caught:
            unworded(text)
        return caught.exception.at

    def test_a_sign_that_is_no_word_sign(self):
        for sign in ALL:
            if sign not in PLAIN:
                for ahead, signs in [("", 0), ("ab", 2), ("~00", 3), ("a~93", 4)]:
                    self.assertEqual(self.refused_at(ahead + sign), signs)
                    self.assertEqual(self.refused_at(ahead + sign + "z "), signs)
                    if sign != "~":
                        self.assertEqual(self.refused_at(ahead + sign + "05"), signs)

    def test_codes_that_are_none(self):
        wrong = ["~", "~0", "~9", "~a", "~0a", "~a0", "~ 5", "~5 ", "~+5", "~5+", "~-5", "~5-", "~~00", "~0~00", "~_5"]
        wrong += ["~" + str(number) for number in range(94, 100)]
        for code in wrong:
            for ahead, signs in [("", 0), ("ab", 2), ("~00", 3), ("a~93", 4)]:
                for behind in ["", "z", "~00", " "]:
                    text = ahead + code + behind
                    self.assertEqual(self.refused_at(text), signs, text)

    def test_three_figures_are_a_code_and_a_figure(self):
        self.assertEqual(unworded("~005"), " 5")
        self.assertEqual(unworded("~939"), "~9")

    def test_what_a_code_tells_is_not_read_again(self):
        self.assertEqual(unworded("~9300"), "~00")

    def test_longer_texts_are_read(self):
        self.assertEqual(unworded("~00" * 5000), " " * 5000)
        self.assertEqual(self.refused_at("~00" * 5000 + "~"), 15000)


if __name__ == "__main__":
    unittest.main()

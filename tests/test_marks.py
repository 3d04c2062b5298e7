"""Points 11 and 14: sealpress.marks."""

import unittest

from sealpress.errors import NoCode
from sealpress.marks import marked, unmarked
from tests.to_try import ALL, long_texts, made_texts, short_texts

SHUTS = ["", "<", "\"", "&", "<&", "&<", "<>\"", "<<", "&&", "abc", " ", "\\~", "<a<&a&"]


class MarkedTest(unittest.TestCase):
    def test_the_example(self):
        self.assertEqual(marked("a<b&c", "<"), "a&27;b&05;c")
        self.assertEqual(unmarked("a&27;b&05;c"), "a<b&c")

    def test_each_sign_by_itself(self):
        for number, sign in enumerate(ALL):
            mark = "&" + str(number).zfill(2) + ";"
            self.assertEqual(marked(sign, ""), mark if sign == "&" else sign)
            if sign not in "0123456789;":
                self.assertEqual(marked(sign, sign), mark)
                self.assertEqual(marked(sign, "<" + sign + "&"), mark)

    def test_and_in_shut_changes_nothing(self):
        for text in made_texts(50, 40):
            for shut in SHUTS:
                self.assertEqual(marked(text, shut + "&"), marked(text, shut))
                self.assertEqual(marked(text, "&" + shut), marked(text, shut))

    def test_a_sign_twice_in_shut_is_marked_once(self):
        self.assertEqual(marked("a<b", "<<"), "a&27;b")
        self.assertEqual(marked("&", "&&"), "&05;")

    def test_a_text_with_nothing_to_be_coded_stays(self):
        for text in ["", "abc", "05;", ";;27;", "a>b", "\\~'\""]:
            self.assertEqual(marked(text, "<"), text)
            self.assertEqual(unmarked(text), text)

    def test_no_shut_sign_outside_of_marks(self):
        for text in made_texts(60, 60):
            for shut in SHUTS:
                coded = marked(text, shut)
                for sign in shut:
                    if sign != "&":
                        self.assertNotIn(sign, coded)

    def test_read_back_to_itself(self):
        for text in made_texts(100, 60) + long_texts() + [ALL]:
            for shut in SHUTS:
                self.assertEqual(unmarked(marked(text, shut)), text)

    def test_two_texts_never_have_one_code(self):
        texts = short_texts("&05;<", 4)
        for shut in ["", "<", "&", "<&"]:
            self.assertEqual(len({marked(text, shut) for text in texts}), len(texts))


class UnmarkedTest(unittest.TestCase):
    def refused_at(self, text):
        with self.assertRaises(NoCode) as caught:
            unmarked(text)
        return caught.exception.at

    def test_a_mark_of_each_sign_is_read(self):
        for number, sign in enumerate(ALL):
            mark = "&" + str(number).zfill(2) + ";"
            self.assertEqual(unmarked(mark), sign)
            self.assertEqual(unmarked("x" + mark + mark + "y"), "x" + sign + sign + "y")

    def test_what_a_mark_tells_is_not_read_again(self):
        self.assertEqual(unmarked("&05;27;"), "&27;")
        self.assertEqual(unmarked("&05;&05;05;"), "&&05;")

    def test_refused(self):
        wrong = ["&", "&0", "&05", "&5;", "&;", "&005;", "&123;", "&05:", "&05 ;", "& 5;", "&5 ;", "&+5;",
                 "&-5;", "&5+;", "&5-;", "&a5;", "&5a;", "& 05;", "&05&", "&&05;", "&_5;", "&0_5;", "&0;5"]
        wrong += ["&" + str(number) + ";" for number in range(94, 100)]
        for code in wrong:
            for ahead, signs in [("", 0), ("ab", 2), ("&05;", 4), ("a&27;;", 6)]:
                for behind in ["", "z", "&", "&05;"]:
                    text = ahead + code + behind
                    self.assertEqual(self.refused_at(text), signs, text)

    def test_refused_at_the_first_of_several(self):
        self.assertEqual(self.refused_at("&05;a&b&"), 5)
        self.assertEqual(self.refused_at("a" * 3000 + "&"), 3000)

    def test_longer_texts_are_read(self):
        self.assertEqual(unmarked("&27;" * 5000), "<" * 5000)


if __name__ == "__main__":
    unittest.main()

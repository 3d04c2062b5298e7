"""Points 2, 34 and 36: sealpress.writer."""

import copy
import unittest

from sealpress.errors import NoPage
from sealpress.pages import is_page
from sealpress.reader import read
from sealpress.signs import is_text
from sealpress.writer import written
from tests.to_try import ALL, PLAIN, boxed, good_pages, made_pages, wrong_pages


def pages_of_texts(text):
    """Pages with a text at each place where one can stand, by itself and among others."""
    talk = [("word", "w"), ("said", text), ("said", text), ("word", "w"), ("said", "")]
    attrs = [("b", "bare", text), ("b", "quoted", text), ("b", "row", [text]), ("b", "row", ["", text, text, ""]),
             ("b", "talk", [("said", text)]), ("b", "talk", talk)]
    pages = [[("text", text)]] + [boxed([attr]) for attr in attrs] + [boxed(attrs + attrs)]
    for name in ["a", "asis"]:
        pages.append([("text", text), ("box", name, []), ("text", text), ("out",), ("text", text)])
    return pages


class WrittenTest(unittest.TestCase):
    def check(self, page):
        """A page is written, stays as it is, and is read again."""
        kept = copy.deepcopy(page)
        text = written(page)
        self.assertEqual(page, kept)
        self.assertTrue(is_text(text))
        self.assertEqual(read(text), page)

    def test_each_sign_at_each_place(self):
        for sign in ALL:
            for text in [sign, sign + sign, "x" + sign + "y", "\\" + sign, "&" + sign + ";", "~" + sign,
                         "'" + sign + "\""]:
                for page in pages_of_texts(text):
                    self.check(page)

    def test_all_signs_at_once(self):
        for text in ["", " ", ALL, ALL[::-1], "&27;", "~00", "\\,", "<a/>", "</a>", "</asis", "&05;27;", "'\\'\"'"]:
            for page in pages_of_texts(text):
                self.check(page)

    def test_each_word_sign(self):
        for sign in PLAIN:
            self.check(boxed([("b", "talk", [("word", sign), ("word", sign + sign), ("said", sign), ("word", sign)])]))

    def test_words_and_said_texts_side_by_side(self):
        for one in [("word", "a"), ("said", "a"), ("said", "")]:
            for other in [("word", "b"), ("said", "b"), ("said", "")]:
                self.check(boxed([("b", "talk", [one, other])]))
                self.check(boxed([("b", "talk", [one, other, one])]))

    def test_pages(self):
        for page in good_pages() + made_pages(400):
            self.check(page)

    def test_two_pages_never_have_one_text(self):
        pages = made_pages(400) + pages_of_texts("a") + pages_of_texts("b") + pages_of_texts("")
        unlike = []
        for page in pages:
            if page not in unlike:
                unlike.append(page)
        self.assertEqual(len({written(page) for page in unlike}), len(unlike))

    def test_the_examples_page(self):
        page = [("text", ""), ("box", "a", [("b", "bare", "x y"), ("c", "talk", [("word", "hi"), ("said", "me")])]),
                ("text", ""), ("out",), ("text", "<")]
        self.check(page)

    def test_long_pages(self):
        self.check(boxed([])[:-1] * 3000 + [("text", "")])
        self.check([("text", "x"), ("box", "a", [])] * 1000 + [("text", ""), ("out",)] * 1000 + [("text", "<" * 5000)])


class NoPageTest(unittest.TestCase):
    def test_what_is_no_page(self):
        for number, (thing, at) in enumerate(wrong_pages()):
            with self.assertRaises(NoPage) as caught:
                written(thing)
            self.assertEqual(caught.exception.at, at, number)

    def test_a_page_cut_off_is_refused_at_the_number_of_its_rows(self):
        tried = 0
        for page in made_pages(100):
            for cut in range(len(page)):
                rows = page[:cut]
                if not is_page(rows):
                    with self.assertRaises(NoPage) as caught:
                        written(rows)
                    self.assertEqual(caught.exception.at, cut)
                    tried += 1
        self.assertGreater(tried, 500)

    def test_a_row_left_out_is_refused_at_the_row_that_cant_stand_there(self):
        page = [("text", ""), ("box", "a", []), ("text", ""), ("box", "b", []), ("text", ""), ("out",), ("text", ""),
                ("out",), ("text", "")]
        for left_out, at in enumerate([0, 1, 2, 3, 4, 5, 6, 7, 8]):
            with self.assertRaises(NoPage) as caught:
                written(page[:left_out] + page[left_out + 1:])
            self.assertEqual(caught.exception.at, at)


if __name__ == "__main__":
    unittest.main()

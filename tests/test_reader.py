"""Points 2, 33 and 36: sealpress.reader."""

import copy
import unittest

from sealpress.errors import NoSign, Unended, Unread
from sealpress.pages import is_page
from sealpress.reader import read
from sealpress.steps import begin, is_end, run
from sealpress.writer import written
from tests.to_try import ALL, OTHERS, WHOLE, boxed, lists_in, made_texts

EXAMPLE = "<a b:x~00y c!\"hi 'me'\"/>&27;"
EXAMPLE_PAGE = [("text", ""), ("box", "a", [("b", "bare", "x y"), ("c", "talk", [("word", "hi"), ("said", "me")])]),
                ("text", ""), ("out",), ("text", "<")]


class ReadTest(unittest.TestCase):
    def refused_at(self, refusal, text):
        with self.assertRaises(refusal) as caught:
            read(text)
        return caught.exception.at

    def test_the_example(self):
        self.assertEqual(read(EXAMPLE), EXAMPLE_PAGE)

    def test_texts(self):
        for text, page in [
                ("", [("text", "")]), ("a > b", [("text", "a > b")]), ("&27;&05;", [("text", "<&")]),
                ("<a/>", boxed([])), ("<a></a>", boxed([])), ("<a b:/>", boxed([("b", "bare", "")])),
                ("<a b() b()/>", boxed([("b", "row", [""]), ("b", "row", [""])])),
                ("<a b(x\\,,\\),,)/>", boxed([("b", "row", ["x,", ")", "", ""])])),
                ("<a b=\"&02;>\"></a>", boxed([("b", "quoted", "\">")])),
                ("<a b!\" \"/>", boxed([("b", "talk", [])])),
                ("<a b!\"x'y''\\'&02;'z-0\"/>",
                 boxed([("b", "talk", [("word", "x"), ("said", "y"), ("said", "'\""), ("word", "z-0")])])),
                ("<asis></asi<</asis>",
                 [("text", ""), ("box", "asis", []), ("text", "</asi<"), ("out",), ("text", "")]),
                ("<a>1<b>2</b>3</a>4",
                 [("text", ""), ("box", "a", []), ("text", "1"), ("box", "b", []), ("text", "2"), ("out",),
                  ("text", "3"), ("out",), ("text", "4")])]:
            self.assertEqual(read(text), page, text)

    def test_no_sign_at_the_first_foreign_sign(self):
        for sign in "%\t\n\r\x00\x7f":
            self.assertEqual(self.refused_at(NoSign, sign), 0)
            self.assertEqual(self.refused_at(NoSign, "ab" + sign + "c" + sign), 2)
            # ahead of what the reader doesn't take, and of an end that is none
            self.assertEqual(self.refused_at(NoSign, "<<" + sign), 2)
            self.assertEqual(self.refused_at(NoSign, "<a" + sign), 2)
            self.assertEqual(self.refused_at(NoSign, "<" * 4000 + sign), 4000)

    def test_no_sign_at_0_of_what_is_no_text(self):
        for thing in OTHERS + [["<a/>"], 3]:
            if not isinstance(thing, str):
                self.assertEqual(self.refused_at(NoSign, thing), 0)

    def test_unread_at_the_first_sign_that_is_not_taken(self):
        for text, at in [("<<", 1), ("a<1", 2), ("<a></b>", 6), ("</a>", 3), ("x</a><", 4), ("&94;", 3),
                         ("<a  b:c/>", 3), ("<a b:X/>", 5), ("<a b!\"X\"/>", 6), ("<a><<", 4),
                         ("<asis/></asis>", 13), ("<a/ >", 3)]:
            self.assertEqual(self.refused_at(Unread, text), at, text)
        # ahead of an end that is none
        self.assertEqual(self.refused_at(Unread, "<a><b></a><"), 9)

    def test_unended_within_whatever(self):
        for text in ["<", "&", "&2", "&27", "<a", "<a>", "<a/", "<a ", "<a b", "<a b:", "<a b:x", "<a b:~", "<a b(",
                     "<a b()", "<a b(\\", "<a b=", "<a b=\"", "<a b=\"\"", "<a b!\"", "<a b!\"'", "<asis>",
                     "<asis></asis", "<a></", "<a></a", "<a><b></b>", "<a>" * 1000 + "</a>" * 999]:
            self.assertRaises(Unended, read, text)

    def test_what_is_read_or_refused_is_what_the_machine_says(self):
        tried = {True: 0, False: 0}
        for text in made_texts(400, 12) + WHOLE + [text[:cut] for text in WHOLE for cut in range(len(text))]:
            try:
                state = run(begin(), text)[0]
            except Unread as refusal:
                self.assertEqual(self.refused_at(Unread, text), refusal.at)
                continue
            tried[is_end(state)] += 1
            if is_end(state):
                self.assertIs(is_page(read(text)), True)
            else:
                self.assertRaises(Unended, read, text)
        self.assertGreater(min(tried.values()), 50)

    def test_long_texts(self):
        self.assertEqual(read("x" * 9000), [("text", "x" * 9000)])
        self.assertEqual(read("&27;" * 3000), [("text", "<" * 3000)])
        self.assertEqual(read("<a/>" * 2500), boxed([])[:1] + boxed([])[1:] * 2500)
        deep = [("text", ""), ("box", "a", [])] * 1500 + [("text", ""), ("out",)] * 1500 + [("text", "")]
        self.assertEqual(read("<a>" * 1500 + "</a>" * 1500), deep)
        self.assertEqual(read("<a b(" + ",x" * 3000 + ")/>"), boxed([("b", "row", [""] + ["x"] * 3000)]))
        self.assertEqual(self.refused_at(Unread, "<a/>" * 2500 + "<<"), 10001)

    def test_a_told_page_is_the_askers_own(self):
        for text in WHOLE + [EXAMPLE]:
            page = read(text)
            kept = copy.deepcopy(page)
            for found in lists_in(page):
                found.append("mine")
            self.assertEqual(read(text), kept)

    def test_what_is_written_of_a_page_that_was_read_is_read_to_it(self):
        for text in WHOLE + [EXAMPLE, "x<a b:~00~93/>" * 300, ALL.replace("<", "").replace("&", "")]:
            page = read(text)
            self.assertEqual(read(written(page)), page, text)


if __name__ == "__main__":
    unittest.main()

"""Points 2, 30, 31, 32 and 35: sealpress.pages."""

import copy
import unittest

from sealpress.pages import is_page, page_of, shape_of
from sealpress.steps import begin, run
from tests.to_try import ALL, PLAIN, WHOLE, boxed, good_pages, lists_in, made_pages, wrong_attrs, wrong_pages


def events_of(text):
    return run(begin(), text)[1]


class IsPageTest(unittest.TestCase):
    def test_pages(self):
        for page in good_pages() + made_pages(300):
            self.assertIs(is_page(page), True)

    def test_what_is_none(self):
        for number, (thing, at) in enumerate(wrong_pages()):
            self.assertIs(is_page(thing), False, number)

    def test_attrs_that_are_none(self):
        for number, attrs in enumerate(wrong_attrs()):
            self.assertIs(is_page(boxed(attrs)), False, number)

    def test_each_sign_in_each_text(self):
        # the signs of SIGNS and the others of ASCII, those that stand for no sign among them
        for sign in [chr(number) for number in range(128)]:
            is_sign = sign in ALL
            self.assertIs(is_page([("text", sign)]), is_sign, repr(sign))
            self.assertIs(is_page([("text", "ab" + sign)]), is_sign, repr(sign))
            for attr in [("b", "bare", sign), ("b", "quoted", sign), ("b", "row", ["", sign]),
                         ("b", "talk", [("said", "x" + sign)])]:
                self.assertIs(is_page(boxed([attr])), is_sign, attr)
            self.assertIs(is_page(boxed([("b", "talk", [("word", sign)])])), sign in PLAIN, repr(sign))
            self.assertIs(is_page(boxed([("b", "talk", [("word", "a" + sign + "a")])])), sign in PLAIN, repr(sign))

    def test_long_texts(self):
        for many in [2000, 2001, 50000]:
            self.assertIs(is_page([("text", "x" * many)]), True)
            self.assertIs(is_page([("text", "x" * many + "\t")]), False)
            self.assertIs(is_page(boxed([("b", "talk", [("word", "x" * many), ("said", "X" * many)])])), True)
            self.assertIs(is_page(boxed([("b", "talk", [("word", "x" * many + "X")])])), False)

    def test_what_is_asked_of_stays(self):
        for page in good_pages():
            kept = copy.deepcopy(page)
            is_page(page)
            self.assertEqual(page, kept)


class PageOfTest(unittest.TestCase):
    def test_a_text_alone(self):
        self.assertEqual(page_of([]), [("text", "")])
        self.assertEqual(page_of([("sign", "a"), ("sign", "<")]), [("text", "a<")])

    def test_each_kind_of_event(self):
        events = [("sign", "t"), ("box", "a"),
                  ("attr", "b", "bare"), ("sign", "x"), ("sign", " "),
                  ("attr", "c", "quoted"), ("sign", "\""),
                  ("attr", "d", "row"), ("sign", "i"), ("next",), ("next",), ("sign", "j"), ("sign", "k"),
                  ("attr", "e", "talk"), ("word",), ("sign", "w"), ("said",), ("sign", "'"), ("said",), ("word",),
                  ("sign", "v"), ("in",), ("sign", "u"), ("box", "f"), ("in",), ("out",), ("out",), ("sign", "z")]
        attrs = [("b", "bare", "x "), ("c", "quoted", "\""), ("d", "row", ["i", "", "jk"]),
                 ("e", "talk", [("word", "w"), ("said", "'"), ("said", ""), ("word", "v")])]
        self.assertEqual(page_of(events), [("text", "t"), ("box", "a", attrs), ("text", "u"), ("box", "f", []),
                                           ("text", ""), ("out",), ("text", ""), ("out",), ("text", "z")])

    def test_what_has_no_signs(self):
        for kind, content in [("bare", ""), ("quoted", ""), ("row", [""]), ("talk", [])]:
            events = [("box", "a"), ("attr", "b", kind), ("attr", "b", kind), ("in",), ("out",)]
            self.assertEqual(page_of(events), boxed([("b", kind, content)] * 2))

    def test_signs_in_a_box_are_not_those_behind_it(self):
        self.assertEqual(page_of(events_of("a<b>c</b>d<e/>f")),
                         [("text", "a"), ("box", "b", []), ("text", "c"), ("out",), ("text", "d"), ("box", "e", []),
                          ("text", ""), ("out",), ("text", "f")])

    def test_the_page_of_each_text_that_is_read_is_one(self):
        for text in WHOLE:
            self.assertIs(is_page(page_of(events_of(text))), True, text)

    def test_asis(self):
        self.assertEqual(page_of(events_of("<asis b:c><a></asi&00;</asis>x")),
                         [("text", ""), ("box", "asis", [("b", "bare", "c")]), ("text", "<a></asi&00;"), ("out",),
                          ("text", "x")])

    def test_the_events_stay(self):
        for text in WHOLE:
            events = events_of(text)
            page_of(events)
            self.assertEqual(events, events_of(text))

    def test_a_told_page_is_the_askers_own(self):
        for text in WHOLE:
            events = events_of(text)
            page = page_of(events)
            kept = copy.deepcopy(page)
            for found in lists_in(page):
                found.append("mine")
            self.assertEqual(events, events_of(text))
            self.assertEqual(page_of(events), kept)

    def test_no_list_stands_twice_in_a_told_page(self):
        page = page_of(events_of("<a b() c() d!\"\" e!\"\"/><a/><a/>"))
        lists = lists_in(page)
        self.assertEqual(len({id(found) for found in lists}), len(lists))
        self.assertEqual(len(lists), 8)


class ShapeOfTest(unittest.TestCase):
    def test_texts_go_and_all_else_stays(self):
        page = [("text", "t"), ("box", "a", [("b", "bare", "x"), ("c", "quoted", "y"), ("d", "row", ["i", "", "j"]),
                                             ("e", "talk", [("word", "w"), ("said", "s"), ("said", ""), ("word", "v")]),
                                             ("b", "talk", []), ("b", "row", ["k"])]),
                ("text", "u"), ("box", "asis", []), ("text", "<a>"), ("out",), ("text", "v"), ("out",), ("text", "z")]
        shape = [("text", ""), ("box", "a", [("b", "bare", ""), ("c", "quoted", ""), ("d", "row", ["", "", ""]),
                                             ("e", "talk", [("word", "w"), ("said", ""), ("said", ""), ("word", "v")]),
                                             ("b", "talk", []), ("b", "row", [""])]),
                 ("text", ""), ("box", "asis", []), ("text", ""), ("out",), ("text", ""), ("out",), ("text", "")]
        self.assertEqual(shape_of(page), shape)

    def test_of_any_page(self):
        for page in good_pages() + made_pages(300):
            kept = copy.deepcopy(page)
            shape = shape_of(page)
            self.assertEqual(page, kept)
            self.assertIs(is_page(shape), True)
            self.assertEqual(shape_of(shape), shape)
            self.assertEqual(len(shape), len(page))
            for row, like in zip(page, shape):
                self.assertEqual(like[:-1] if row[0] == "text" else like[:2], row[:-1] if row[0] == "text" else row[:2])
                if row[0] == "text":
                    self.assertEqual(like[1], "")
                if row[0] == "box":
                    self.check_attrs(row[2], like[2])

    def check_attrs(self, attrs, shapes):
        self.assertEqual([attr[:2] for attr in shapes], [attr[:2] for attr in attrs])
        for (name, kind, content), (name, kind, shape) in zip(attrs, shapes):
            if kind == "row":
                self.assertEqual(shape, [""] * len(content))
            elif kind == "talk":
                self.assertEqual(shape, [(word, text if word == "word" else "") for word, text in content])
            else:
                self.assertEqual(shape, "")

    def test_a_told_shape_is_the_askers_own(self):
        for page in good_pages() + made_pages(50):
            kept = copy.deepcopy(page)
            shape = shape_of(page)
            wanted = copy.deepcopy(shape)
            for found in lists_in(shape):
                found.append("mine")
            self.assertEqual(page, kept)
            self.assertEqual(shape_of(page), wanted)


if __name__ == "__main__":
    unittest.main()

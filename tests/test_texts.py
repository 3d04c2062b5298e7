"""Point 91: sealpress.texts."""

import copy
import unittest

from sealpress.texts import page_text, pairs_text
from sealpress.words import unworded
from tests.to_try import ALL, boxed, good_pages, made_pages


def untold(text):
    """The text of which a T tells."""
    if text[:1] != ".":
        raise AssertionError("no dot ahead")
    return unworded(text[1:])


def page_told(text):
    """The page of which a text tells."""
    rows = []
    for line in text.split("\n"):
        words = line.split(" ")
        if words[0] == "text":
            rows.append(("text", untold(words[1])))
        elif words[0] == "out":
            rows.append(("out",))
        else:
            attrs = []
            for name, kind, content in [word.split(":") for word in words[2:]]:
                parts = content.split(",")
                if kind == "talk":
                    told = [(part[:4], untold(part[4:])) for part in parts] if content else []
                else:
                    told = [untold(part) for part in parts] if kind == "row" else untold(content)
                attrs.append((name, kind, told))
            rows.append(("box", words[1], attrs))
    return rows


class PageTextTest(unittest.TestCase):
    def test_rows(self):
        self.assertEqual(page_text([("text", "")]), "text .")
        self.assertEqual(page_text([("text", "a b.~")]), "text .a~00b~13~93")
        self.assertEqual(page_text(boxed([])), "text .\nbox a\ntext .\nout\ntext .")

    def test_what_a_box_is_told_with(self):
        for attrs, text in [
                ([("b", "bare", "")], "b:bare:."), ([("b", "bare", "x y")], "b:bare:.x~00y"),
                ([("b", "quoted", "")], "b:quoted:."), ([("b", "quoted", ",:")], "b:quoted:.~11~25"),
                ([("b", "row", [""])], "b:row:."), ([("b", "row", ["x", "", ",."])], "b:row:.x,.,.~11~13"),
                ([("b", "talk", [])], "b:talk:"), ([("b", "talk", [("word", "w-0")])], "b:talk:word.w-0"),
                ([("b", "talk", [("said", ""), ("word", "w"), ("said", "a b")])], "b:talk:said.,word.w,said.a~00b"),
                ([("b", "bare", "1"), ("b", "quoted", "2"), ("abcdefgh", "row", ["3"])],
                 "b:bare:.1 b:quoted:.2 abcdefgh:row:.3")]:
            self.assertEqual(page_text(boxed(attrs)), "text .\nbox a " + text + "\ntext .\nout\ntext .")

    def test_the_pages_are_told_again(self):
        for page in good_pages() + made_pages(150):
            kept = copy.deepcopy(page)
            text = page_text(page)
            self.assertEqual(page_told(text), kept)
            self.assertEqual(page, kept)
            self.assertTrue(all([sign in ALL + "\n" for sign in text]))


class PairsTextTest(unittest.TestCase):
    def test_pairs(self):
        for pairs, text in [([], "none"), ([("x", "text")], "x text"),
                            ([("x", "text"), ("y", "bare")], "x text; y bare"),
                            ([("a", "text", ".", "."), ("b", "talk", ".", "said")], "a text . .; b talk . said"),
                            ([("a",)], "a"), ([("none",), ("none", "text")], "none; none text")]:
            kept = list(pairs)
            self.assertEqual(pairs_text(pairs), text)
            self.assertEqual(pairs, kept)


if __name__ == "__main__":
    unittest.main()

"""Point 24: sealpress.talks."""

import unittest

from sealpress.talks import feed
from tests.to_try import ALL

PLAIN = "abcdefghijklmnopqrstuvwxyz0123456789-"


class FeedTest(unittest.TestCase):
    def test_between(self):
        for sign in ALL:
            want = None
            if sign == " ":
                want = ("between", [])
            elif sign == "'":
                want = ("said", [("said",)])
            elif sign in PLAIN:
                want = ("word", [("word",), ("sign", sign)])
            self.assertEqual(feed("between", sign), want, sign)

    def test_word(self):
        for sign in ALL:
            want = None
            if sign == " ":
                want = ("between", [])
            elif sign == "'":
                want = ("said", [("said",)])
            elif sign in PLAIN:
                want = ("word", [("sign", sign)])
            self.assertEqual(feed("word", sign), want, sign)

    def test_said(self):
        for sign in ALL:
            want = ("said", [("sign", sign)])
            if sign == "'":
                want = ("between", [])
            elif sign == "\\":
                want = ("stroke", [])
            self.assertEqual(feed("said", sign), want, sign)

    def test_stroke(self):
        for sign in ALL:
            self.assertEqual(feed("stroke", sign), ("said", [("sign", sign)]), sign)

    def test_the_told_events_are_the_askers_own(self):
        for talk, sign in [("between", " "), ("between", "a"), ("between", "'"), ("word", "a"), ("said", "'"),
                           ("said", "\\"), ("said", "a"), ("stroke", "'")]:
            first = feed(talk, sign)
            kept = list(first[1])
            first[1].append("mine")
            self.assertEqual(feed(talk, sign)[1], kept)


if __name__ == "__main__":
    unittest.main()

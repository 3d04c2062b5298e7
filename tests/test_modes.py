"""Points 20 to 25: each mode with each of the 94 signs."""

import unittest

from sealpress.steps import begin, floored, run, step
from tests.to_try import ALL

LETTERS = "abcdefghijklmnopqrstuvwxyz"
FIGURES = "0123456789"
PLAIN = LETTERS + FIGURES + "-"
# with none open, as behind floored; with one; with several; with asis innermost, and beneath another
BOXES = [(), ("a",), ("abcdefgh",), ("asis",), ("a", "b", "a"), ("b", "asis"), ("asis", "b")]


def sign_event(sign):
    return [("sign", sign)]


class ModesTest(unittest.TestCase):
    def check(self, state, special, rest):
        """Each sign of special leads to what stands there, each other one to what rest tells of it."""
        for sign in ALL:
            want = special[sign] if sign in special else rest(sign)
            self.assertEqual(step(state, sign), want, (state, sign))

    def none(self, sign):
        return None

    def behind(self, opens, ahead):
        """What a blank, / and > lead to behind a name and behind what a box is told with."""
        ways = {" ": (("gap", "", opens, ""), ahead), "/": (("slash", "", opens, ""), ahead)}
        if opens:
            mode = "asis" if opens[-1] == "asis" else "text"
            ways[">"] = ((mode, "", opens, ""), ahead + [("in",)])
        return ways

    def test_text(self):
        for opens in BOXES:
            special = {"<": (("open", "", opens, ""), []), "&": (("mark", "", opens, ""), [])}
            self.check(("text", "", opens, ""), special,
                       lambda sign: (("text", "", opens, ""), sign_event(sign)))

    def test_open(self):
        for opens in BOXES:
            special = {"/": (("shut", "", opens, ""), [])}
            for letter in LETTERS:
                special[letter] = (("name", letter, opens, ""), [])
            self.check(("open", "", opens, ""), special, self.none)

    def test_name(self):
        for opens in BOXES:
            for word in ["a", "as", "asis", "abcdefg", "abcdefgh"]:
                special = self.behind(opens + (word,), [("box", word)])
                for letter in LETTERS:
                    special[letter] = (("name", word + letter, opens, ""), []) if len(word) < 8 else None
                self.check(("name", word, opens, ""), special, self.none)

    def test_slash(self):
        for opens in BOXES:
            special = {">": (("text", "", opens[:-1], ""), [("in",), ("out",)]) if opens else None}
            self.check(("slash", "", opens, ""), special, self.none)

    def test_shut(self):
        for opens in BOXES:
            for word in ["", "a", "b", "as", "asi", "asis", "asisa", "abcdefg", "abcdefgh", "abcdefgx"]:
                special = {}
                for letter in LETTERS:
                    special[letter] = (("shut", word + letter, opens, ""), []) if len(word) < 8 else None
                if opens and opens[-1] == word:
                    special[">"] = (("text", "", opens[:-1], ""), [("out",)])
                self.check(("shut", word, opens, ""), special, self.none)

    def test_gap(self):
        for opens in BOXES:
            special = {letter: (("attr", letter, opens, ""), []) for letter in LETTERS}
            self.check(("gap", "", opens, ""), special, self.none)

    def test_attr(self):
        for opens in BOXES:
            for word in ["a", "abc", "abcdefg", "abcdefgh"]:
                special = {
                    ":": (("bare", "", opens, ""), [("attr", word, "bare")]),
                    "(": (("row", "", opens, ""), [("attr", word, "row")]),
                    "=": (("is", word, opens, ""), []),
                    "!": (("bang", word, opens, ""), []),
                }
                for letter in LETTERS:
                    special[letter] = (("attr", word + letter, opens, ""), []) if len(word) < 8 else None
                self.check(("attr", word, opens, ""), special, self.none)

    def test_is_and_bang(self):
        for opens in BOXES:
            for word in ["a", "abcdefgh"]:
                quoted = {"\"": (("quoted", "", opens, ""), [("attr", word, "quoted")])}
                self.check(("is", word, opens, ""), quoted, self.none)
                talk = {"\"": (("talk", "", opens, "between"), [("attr", word, "talk")])}
                self.check(("bang", word, opens, ""), talk, self.none)

    def test_bare(self):
        for opens in BOXES:
            special = self.behind(opens, [])
            special["~"] = (("code", "", opens, ""), [])
            for sign in PLAIN:
                special[sign] = (("bare", "", opens, ""), sign_event(sign))
            self.check(("bare", "", opens, ""), special, self.none)

    def test_code(self):
        for opens in BOXES:
            special = {figure: (("code", figure, opens, ""), []) for figure in FIGURES}
            self.check(("code", "", opens, ""), special, self.none)
            for first in FIGURES:
                special = {}
                for second in FIGURES:
                    if int(first + second) <= 93:
                        special[second] = (("bare", "", opens, ""), sign_event(ALL[int(first + second)]))
                self.check(("code", first, opens, ""), special, self.none)

    def test_row(self):
        for opens in BOXES:
            special = {
                "\\": (("stroke", "", opens, ""), []),
                ",": (("row", "", opens, ""), [("next",)]),
                ")": (("done", "", opens, ""), []),
            }
            rest = lambda sign: (("row", "", opens, ""), sign_event(sign))
            self.check(("row", "", opens, ""), special, rest)
            self.check(("stroke", "", opens, ""), {}, rest)

    def test_quoted(self):
        for opens in BOXES:
            special = {"\"": (("done", "", opens, ""), []), "&": (("qmark", "", opens, ""), [])}
            self.check(("quoted", "", opens, ""), special,
                       lambda sign: (("quoted", "", opens, ""), sign_event(sign)))

    def test_done(self):
        for opens in BOXES:
            self.check(("done", "", opens, ""), self.behind(opens, []), self.none)

    def talk_ways(self, opens, talk, sign):
        """Where a sign that is fed to a talk leads to, as point 24 says it."""
        told = lambda talk, events: (("talk", "", opens, talk), events)
        if talk == "stroke":
            return told("said", sign_event(sign))
        if talk == "said":
            if sign == "'":
                return told("between", [])
            return told("stroke", []) if sign == "\\" else told("said", sign_event(sign))
        if sign == " ":
            return told("between", [])
        if sign == "'":
            return told("said", [("said",)])
        if sign not in PLAIN:
            return None
        return told("word", ([("word",)] if talk == "between" else []) + sign_event(sign))

    def test_talk(self):
        for opens in BOXES:
            for talk in ["between", "word", "said", "stroke"]:
                special = {"&": (("tmark", "", opens, talk), []), "\"": None}
                if talk in ("between", "word"):
                    special["\""] = (("done", "", opens, ""), [])
                self.check(("talk", "", opens, talk), special, lambda sign: self.talk_ways(opens, talk, sign))

    def marks(self, mode, opens, talk, told):
        """A mark by each word that it may have gathered; told is what its sign leads to."""
        for word in [""] + list(FIGURES) + [str(number).zfill(2) for number in range(100)]:
            special = {}
            if len(word) < 2:
                special = {figure: ((mode, word + figure, opens, talk), []) for figure in FIGURES}
            elif int(word) <= 93:
                special[";"] = told(ALL[int(word)])
            self.check((mode, word, opens, talk), special, self.none)

    def test_mark(self):
        for opens in [(), ("a",), ("b", "asis", "c")]:
            self.marks("mark", opens, "", lambda sign: (("text", "", opens, ""), sign_event(sign)))

    def test_qmark(self):
        for opens in [(), ("a",), ("b", "asis")]:
            self.marks("qmark", opens, "", lambda sign: (("quoted", "", opens, ""), sign_event(sign)))

    def test_tmark(self):
        for opens in [(), ("a",), ("b", "asis")]:
            for talk in ["between", "word", "said", "stroke"]:
                self.marks("tmark", opens, talk, lambda sign: self.talk_ways(opens, talk, sign))

    def test_asis(self):
        end = "</asis>"
        for opens in [(), ("asis",), ("a", "asis"), ("asis", "b", "asis")]:
            for many in range(len(end)):
                word = end[:many]
                broken = [("sign", sign) for sign in word]
                special = {"<": (("asis", "<", opens, ""), broken)}
                special[end[many]] = (("asis", word + end[many], opens, ""), [])
                if many == 6:
                    special[">"] = (("text", "", opens[:-1], ""), [("out",)]) if opens else None
                self.check(("asis", word, opens, ""), special,
                           lambda sign: (("asis", "", opens, ""), broken + sign_event(sign)))


class ReachedTest(unittest.TestCase):
    """Some texts as a whole, so that the states above are those that texts come to."""

    def came_to(self, text):
        return run(begin(), text)

    def stuck_at(self, text):
        """The place of the first sign that can't stand, by steps alone."""
        state = begin()
        for at, sign in enumerate(text):
            answer = step(state, sign)
            if answer is None:
                return at
            state = answer[0]
        return None

    def test_all_that_a_box_is_told_with(self):
        text = "<a b:x~00 c=\"&27;'\" d(x,\\,) e!\"hi 'm\\'&02;' &06;s&06;\">t</a>"
        signs = lambda told: [("sign", sign) for sign in told]
        wanted = [("box", "a"), ("attr", "b", "bare")] + signs("x ")
        wanted += [("attr", "c", "quoted")] + signs("<'")
        wanted += [("attr", "d", "row")] + signs("x") + [("next",)] + signs(",")
        wanted += [("attr", "e", "talk"), ("word",)] + signs("hi") + [("said",)] + signs("m'\"")
        wanted += [("said",)] + signs("s") + [("in",)] + signs("t") + [("out",)]
        self.assertEqual(self.came_to(text), (begin(), wanted))

    def test_marked_signs_in_a_talk(self):
        quote = "&06;"
        state, events = self.came_to("<a b!\"" + quote + "x&02;" + quote + "w&76;&00;&15;\"/>")
        self.assertEqual(state, begin())
        self.assertEqual(events, [
            ("box", "a"), ("attr", "b", "talk"), ("said",), ("sign", "x"), ("sign", "\""),
            ("word",), ("sign", "w"), ("sign", "m"), ("word",), ("sign", "0"), ("in",), ("out",)])

    def test_a_box_is_shut_by_its_own_name_alone(self):
        self.assertEqual(self.came_to("<ab></ab>"), (begin(), [("box", "ab"), ("in",), ("out",)]))
        for other, at in [("a", 7), ("b", 7), ("abc", 9), ("ba", 8), ("", 6)]:
            self.assertEqual(self.stuck_at("<ab></" + other + ">"), at)
        self.assertEqual(self.stuck_at("<a><b></a>"), 9)

    def test_words_of_eight_letters_and_a_ninth(self):
        self.assertEqual(self.came_to("<abcdefgh abcdefgh:x></abcdefgh>")[0], begin())
        self.assertEqual(self.stuck_at("<abcdefghi"), 9)
        self.assertEqual(self.stuck_at("<a abcdefghi"), 11)
        self.assertEqual(self.stuck_at("<abcdefgh></abcdefghi"), 20)

    def test_asis_keeps_what_looks_like_boxes(self):
        state, events = self.came_to("<asis><b>&27;<</</asis</asi></asis>&27;")
        self.assertEqual(state, begin())
        told = "<b>&27;<</</asis</asi>"
        self.assertEqual(events, [("box", "asis"), ("in",)] + [("sign", sign) for sign in told]
                         + [("out",), ("sign", "<")])

    def test_asis_by_a_slash_has_no_inside(self):
        self.assertEqual(self.came_to("<asis/>&27;"), (begin(), [("box", "asis"), ("in",), ("out",), ("sign", "<")]))

    def test_asis_with_what_it_is_told_with(self):
        for told in ["b:x", "b(x)", "b=\"x\"", "b!\"x\""]:
            state, events = self.came_to("<asis " + told + "></")
            self.assertEqual(state, ("asis", "</", ("asis",), ""))
        self.assertEqual(self.came_to("<asis b:c><")[0], ("asis", "<", ("asis",), ""))

    def test_where_no_box_is_open(self):
        for text in ["<a b:c", "<a b(c)", "<a/", "<asis b:c", "<asis></asis"]:
            state = run(begin(), text)[0]
            self.assertIsNotNone(step(state, ">"))
            self.assertIsNone(step(floored(state), ">"))
        self.assertEqual(self.stuck_at("</a>"), 3)
        self.assertEqual(self.stuck_at("<a/></a>"), 7)

    def test_codes_and_marks(self):
        for number in range(94):
            figures = str(number).zfill(2)
            self.assertEqual(self.came_to("&" + figures + ";"), (begin(), [("sign", ALL[number])]))
            self.assertEqual(self.came_to("<a b:~" + figures)[1][2:], [("sign", ALL[number])])
            self.assertEqual(self.came_to("<a b=\"&" + figures + ";")[1][2:], [("sign", ALL[number])])
        for number in range(94, 100):
            self.assertEqual(self.stuck_at("&" + str(number) + ";"), 3)
            self.assertEqual(self.stuck_at("<a b:~" + str(number)), 7)
            self.assertEqual(self.stuck_at("<a b=\"&" + str(number) + ";"), 9)
        self.assertEqual(self.stuck_at("&5;"), 2)
        self.assertEqual(self.stuck_at("&005;"), 3)
        self.assertEqual(self.stuck_at("&;"), 1)
        self.assertEqual(self.stuck_at("<a b:~5 "), 7)

    def test_the_told_events_are_the_askers_own(self):
        asked = [(("text", "", (), ""), "x"), (("text", "", (), ""), "<"), (("name", "a", (), ""), ">"),
                 (("slash", "", ("a",), ""), ">"), (("row", "", ("a",), ""), ","), (("asis", "</", (), ""), "x"),
                 (("talk", "", ("a",), "between"), "x"), (("tmark", "65", ("a",), "between"), ";")]
        for state, sign in asked:
            first = step(state, sign)
            kept = list(first[1])
            first[1].append(("sign", "mine"))
            self.assertEqual(step(state, sign)[1], kept)


if __name__ == "__main__":
    unittest.main()

"""Points 2 and 50 to 53: sealpress.sheets."""

import copy
import random
import re
import unittest

from sealpress.errors import NoSheet, NoSign, SealError, TooMany, Twice
from sealpress.sheets import Sheet, sheet_read
from tests.to_try import ALL, BRACE_WORDS, OTHERS, PLAIN, lists_in, made_sheets, told_by

PLAIN_SIGNS = ALL.replace("{", "").replace("}", "")
OPENERS = ["each", "if", "block"]


def told(text):
    sheet = sheet_read(text)
    return (sheet.over, sheet.pieces)


def outcome(text):
    """What is refused of a text, with its field; None where nothing is."""
    try:
        sheet_read(text)
    except (NoSheet, NoSign) as refusal:
        return (type(refusal).__name__, refusal.at)
    except Twice as refusal:
        return ("Twice", refusal.name)
    except TooMany:
        return ("TooMany",)
    return None


def nested(words, inner):
    """A text in which these stand in one another, the first one outermost, each block by a name of its own."""
    heads = ["{" + word + " " + ("abcdefghijklmnopqrstuvwxyz"[number] if word == "block" else "x") + "}"
             for number, word in enumerate(words)]
    return "".join(heads) + inner + "{end}" * len(words)


class LiteralTest(unittest.TestCase):
    def test_no_signs(self):
        self.assertEqual(told(""), (None, []))

    def test_each_sign(self):
        for sign in PLAIN_SIGNS:
            self.assertEqual(told(sign), (None, [("lit", sign)]))
        self.assertEqual(told(PLAIN_SIGNS), (None, [("lit", PLAIN_SIGNS)]))

    def test_braces(self):
        for text, lit in [("{(}", "{"), ("{)}", "}"), ("{(}{)}", "{}"), ("a{(}b", "a{b"), ("{(}a{)}", "{a}"),
                          ("{(}{(}{)}{)}", "{{}}"), ("{(}({)}", "{(}"), ("()", "()"), ("{(}end{)}", "{end}")]:
            self.assertEqual(told(text), (None, [("lit", lit)]), text)

    def test_joined_up_to_another_piece(self):
        self.assertEqual(told("a{(}{x}b{)}c{x}{(}"),
                         (None, [("lit", "a{"), ("hole", "x"), ("lit", "b}c"), ("hole", "x"), ("lit", "{")]))
        self.assertEqual(told("a{if x}b{else}c{end}d{each y}{(}e{end}f"),
                         (None, [("lit", "a"), ("if", "x", [("lit", "b")], [("lit", "c")]), ("lit", "d"),
                                 ("each", "y", [("lit", "{e")]), ("lit", "f")]))


class WordsTest(unittest.TestCase):
    def test_each_word_alone(self):
        for text, over, pieces in [
                ("{x}", None, [("hole", "x")]), ("{abcdefgh}", None, [("hole", "abcdefgh")]),
                ("{lit}", None, [("hole", "lit")]), ("{hole}", None, [("hole", "hole")]),
                ("{each x}{end}", None, [("each", "x", [])]), ("{if x}{end}", None, [("if", "x", [], [])]),
                ("{if x}{else}{end}", None, [("if", "x", [], [])]),
                ("{if x}a{else}{end}", None, [("if", "x", [("lit", "a")], [])]),
                ("{if x}{else}a{end}", None, [("if", "x", [], [("lit", "a")])]),
                ("{if x}a{else}b{end}", None, [("if", "x", [("lit", "a")], [("lit", "b")])]),
                ("{block x}{end}", None, [("block", "x", [])]), ("{draw x}", None, [("draw", "x")]),
                ("{over x}", "x", []), ("{over x}{block y}{end}", "x", [("block", "y", [])]),
                ("{over x}{block y}{elder}{end}", "x", [("block", "y", [("elder",)])]),
                ("{over x}{block y}{elder}{elder}{end}{block z}{end}", "x",
                 [("block", "y", [("elder",), ("elder",)]), ("block", "z", [])])]:
            self.assertEqual(told(text), (over, pieces), text)

    def test_the_example(self):
        self.assertEqual(told("{over base}{block top}a{(}{who}{elder}{end}"),
                         ("base", [("block", "top", [("lit", "a{"), ("hole", "who"), ("elder",)])]))

    def test_an_end_and_an_else_belong_to_what_was_opened_last(self):
        self.assertEqual(told("{if a}{each b}1{end}{else}{if c}2{else}3{end}4{end}5"),
                         (None, [("if", "a", [("each", "b", [("lit", "1")])],
                                  [("if", "c", [("lit", "2")], [("lit", "3")]), ("lit", "4")]), ("lit", "5")]))

    def test_an_elder_in_what_is_opened_within_a_block(self):
        self.assertEqual(told("{over o}{block a}{each b}{if c}{else}{elder}{end}{end}{end}"),
                         ("o", [("block", "a", [("each", "b", [("if", "c", [], [("elder",)])])])]))
        self.assertEqual(told("{over o}{block a}{block b}{elder}{end}{elder}{end}"),
                         ("o", [("block", "a", [("block", "b", [("elder",)]), ("elder",)])]))

    def test_in_one_another_to_a_depth_of_twelve(self):
        source = random.Random(5)
        mixed = [[source.choice(OPENERS) for level in range(12)] for number in range(60)]
        for words in [[word] * 12 for word in OPENERS] + mixed:
            for depth in range(13):
                over, pieces = told(nested(words[:depth], "a{x}{draw b}{(}"))
                self.assertIsNone(over)
                for word in words[:depth]:
                    self.assertEqual([piece[0] for piece in pieces], [word])
                    pieces = pieces[0][2]
                self.assertEqual(pieces, [("lit", "a"), ("hole", "x"), ("draw", "b"), ("lit", "{")])

    def test_more_than_twelve_beside_one_another(self):
        for word in ["each", "if"]:
            self.assertEqual(len(told(("{" + word + " x}{end}") * 100)[1]), 100)
        self.assertEqual(len(told(nested(["each"] * 12, "") * 5)[1]), 5)
        deep = nested(["each"] * 11, "{if x}{end}{each x}{end}{block x}{end}")
        self.assertIsNone(outcome(deep))

    def test_the_eight_words_are_names_of_blocks_and_sheets(self):
        for word in BRACE_WORDS:
            self.assertEqual(told("{block " + word + "}{end}"), (None, [("block", word, [])]))
            self.assertEqual(told("{draw " + word + "}"), (None, [("draw", word)]))
            self.assertEqual(told("{over " + word + "}"), (word, []))

    def test_the_eight_words_are_no_other_names(self):
        for word in BRACE_WORDS:
            self.assertEqual(outcome("a{each " + word + "}{end}"), ("NoSheet", 1))
            self.assertEqual(outcome("a{if " + word + "}{end}"), ("NoSheet", 1))
            # else, end and elder can't stand there either
            self.assertEqual(outcome("a{" + word + "}"), ("NoSheet", 1))

    def test_made_sheets(self):
        for over, pieces in made_sheets(300):
            self.assertEqual(told(told_by(over, pieces)), (over, pieces))

    def test_each_asking_tells_a_sheet_of_its_own(self):
        text = "{block a}{if x}b{else}{each y}c{end}{end}{end}"
        one = sheet_read(text)
        kept = copy.deepcopy(one.pieces)
        for found in lists_in(one.pieces):
            found.append("mine")
        self.assertEqual(sheet_read(text).pieces, kept)


class SheetTest(unittest.TestCase):
    def test_fields(self):
        sheet = Sheet("base", [("block", "a", [("lit", "x")])])
        self.assertEqual((sheet.over, sheet.pieces), ("base", [("block", "a", [("lit", "x")])]))
        self.assertIsNone(Sheet(None, []).over)

    def test_what_is_handed_in_is_copied(self):
        for over, pieces in made_sheets(60):
            kept = copy.deepcopy(pieces)
            sheet = Sheet(over, pieces)
            self.assertEqual(pieces, kept)
            for found in lists_in(pieces):
                found.append("mine")
            self.assertEqual(sheet.pieces, kept)

    def test_blocks(self):
        for text, blocks in [
                ("", []), ("a{x}{each y}{end}", []),
                ("{block b}x{end}{block a}{end}", [("b", [("lit", "x")]), ("a", [])]),
                ("{block z}{block y}1{end}{block a}{end}{end}{block b}{end}",
                 [("z", [("block", "y", [("lit", "1")]), ("block", "a", [])]), ("y", [("lit", "1")]), ("a", []),
                  ("b", [])]),
                ("{each x}{block d}{end}{end}{if x}{block c}{end}{else}{block b}2{end}{end}{block a}{end}",
                 [("d", []), ("c", []), ("b", [("lit", "2")]), ("a", [])]),
                ("{over o}{block b}{each x}{if y}{else}{block a}{elder}{end}{end}{end}{end}",
                 [("b", [("each", "x", [("if", "y", [], [("block", "a", [("elder",)])])])]), ("a", [("elder",)])])]:
            found = sheet_read(text).blocks()
            self.assertIsInstance(found, dict)
            self.assertEqual(list(found.items()), blocks, text)

    def test_blocks_of_made_sheets_in_the_order_of_the_text(self):
        for over, pieces in made_sheets(200):
            blocks = Sheet(over, pieces).blocks()
            self.assertEqual(list(blocks), re.findall(r"\{block ([a-z]+)\}", told_by(over, pieces)))
            for name in blocks:
                self.assertIn("{block " + name + "}" + told_by(None, blocks[name]) + "{end}", told_by(over, pieces))

    def test_blocks_in_one_another_to_a_depth_of_twelve(self):
        self.assertEqual(list(sheet_read(nested(["block"] * 12, "a")).blocks()), list("abcdefghijkl"))

    def test_what_is_done_to_the_told_blocks_changes_nothing(self):
        for over, pieces in made_sheets(60):
            sheet = Sheet(over, pieces)
            kept = copy.deepcopy(sheet.blocks())
            blocks = sheet.blocks()
            lists = lists_in(blocks)
            self.assertEqual(len({id(found) for found in lists}), len(lists))
            for found in lists[1:]:
                found.append("mine")
            blocks["mine"] = []
            self.assertEqual(sheet.pieces, pieces)
            self.assertEqual(sheet.blocks(), kept)

    def test_what_is_done_to_one_told_list_changes_no_other(self):
        blocks = sheet_read("{block a}{block b}{block c}{end}{end}{end}").blocks()
        blocks["c"].append("mine")
        blocks["b"].append("mine")
        self.assertEqual(blocks["a"], [("block", "b", [("block", "c", [])])])
        self.assertEqual(blocks["b"], [("block", "c", []), "mine"])


class NoSheetTest(unittest.TestCase):
    def check(self, wrong, ahead=""):
        for text, at in wrong:
            self.assertEqual(outcome(ahead + text), ("NoSheet", len(ahead) + at), ahead + text)
            # what stands behind says nothing
            for behind in ["}", "{end}", "{block q}{block q}{end}{end}", "{over a}"]:
                if "}" in text[at:]:
                    self.assertEqual(outcome(ahead + text + behind), ("NoSheet", len(ahead) + at),
                                     ahead + text + behind)

    def test_braces_that_are_not_shut(self):
        self.check([("{", 0), ("a{", 1), ("ab{x", 2), ("{x}{", 3), ("{{x}", 0), ("{x{y}", 0), ("a{b{c}d}", 1),
                    ("{{}", 0), ("{(}{", 3), ("{each x{end}", 0), ("{({)}", 0), ("{each x}{", 8), ("{x", 0)])

    def test_what_can_not_stand_in_braces(self):
        wrong = ["", " ", "  ", "X", "x1", "x-y", "abcdefghi", " x", "x ", "x y", "x  y", "each", "each ", "each  x",
                 "each x ", " each x", "each X", "each x y", "each abcdefghi", "each 1", "if", "if ", "if  x", "if x ",
                 "if X", "if x y", "block", "block ", "block  x", "block x ", "block X", "block x y",
                 "block abcdefghi", "draw", "draw ", "draw  x", "draw x ", "draw X", "draw x y", "over", "over ",
                 "end x", "end ", " end", "else x", "else ", "elder x", "elder ", "Each x", "EACH x", "( ", " )", "()",
                 "((", "(x", "hole x", "lit x", "each (", "block (", "draw )", "each\\x", "<", "&00;", "~", "x,y",
                 "block x,y", "else else"]
        for inside in wrong:
            self.check([("{" + inside + "}", 0), ("ab{" + inside + "}", 2), ("{each x}{" + inside + "}{end}", 8),
                        ("{x}{" + inside + "}", 3)])
        for sign in PLAIN_SIGNS:
            if sign not in "()" and sign not in PLAIN[:26]:
                self.check([("{" + sign + "}", 0), ("{a" + sign + "}", 0), ("{each " + sign + "}", 0),
                            ("{block a" + sign + "}", 0)])

    def test_what_only_begins_like_a_word_is_a_hole(self):
        for inside in ["eachx", "ends", "elders", "en", "i", "ifx", "overs", "blocks"]:
            self.assertEqual(told("{" + inside + "}"), (None, [("hole", inside)]))

    def test_names_have_one_to_eight_letters(self):
        for word, end in [("", ""), ("each ", "{end}"), ("if ", "{end}"), ("block ", "{end}"), ("draw ", "")]:
            for length in range(12):
                text = "{" + word + "abcdefghijkl"[:length] + "}" + end
                self.assertEqual(outcome(text), None if 1 <= length <= 8 else ("NoSheet", 0), text)

    def test_over_that_does_not_begin_the_text(self):
        self.check([("a{over x}", 1), ("{x}{over x}", 3), ("{(}{over x}", 3), ("{over x}{over y}", 8), (" {over x}", 1),
                    ("{block a}{over x}{end}", 9), ("{over x}{block a}{over y}{end}", 17),
                    ("{each y}{end}{over x}", 13), ("{over X}", 0), ("{over x y}", 0), ("{over  x}", 0),
                    ("{over abcdefghi}", 0)])

    def test_else_where_none_can_stand(self):
        self.check([("{else}", 0), ("a{else}", 1), ("{each x}{else}{end}", 8), ("{block x}{else}{end}", 9),
                    ("{if x}{else}{else}{end}", 12), ("{if x}a{else}b{else}c{end}", 14), ("{if x}{end}{else}", 11),
                    ("{if x}{each y}{else}{end}{end}", 14), ("{if x}{else}{each y}{else}{end}{end}", 20),
                    ("{if x}{if y}{else}{end}{else}{else}{end}", 29), ("{if x}{block y}{else}{end}{end}", 15)])

    def test_end_where_nothing_is_open(self):
        self.check([("{end}", 0), ("a{end}", 1), ("{each x}{end}{end}", 13), ("{if x}{else}{end}{end}", 17),
                    ("{x}{end}", 3), ("{over x}{end}", 8), ("{over x}{block a}{end}{end}", 22)])

    def test_elder_where_none_can_stand(self):
        # no block is open
        self.check([("{elder}", 0), ("{each x}{elder}{end}", 8), ("{if x}{else}{elder}{end}", 12),
                    ("{over x}{elder}", 8), ("{over x}{block a}{end}{elder}", 22)])
        # a sheet over none
        self.check([("{block a}{elder}{end}", 9), ("{block a}{each x}{elder}{end}{end}", 17),
                    (" {block a}{elder}{end}", 10)])

    def test_over_another_sheet_nothing_but_blocks_where_nothing_is_open(self):
        for inside in ["x", "(", ")", "each x", "if x", "draw x", "else", "end", "elder", "over x"]:
            self.check([("{over a}{" + inside + "}", 8), ("{over a}{block b}{end}{" + inside + "}", 22)])
            self.check([("{over a}{block b}{block c}{end}{end}{" + inside + "}", 36)])

    def test_over_another_sheet_no_literal_sign_where_nothing_is_open(self):
        for sign in PLAIN_SIGNS:
            self.assertEqual(outcome("{over a}" + sign), ("NoSheet", 8))
            self.assertEqual(outcome("{over a}{block b}" + sign + "{end}" + sign * 2), ("NoSheet", 23))
            self.assertIsNone(outcome("{over a}{block b}" + sign + "{end}"))

    def test_a_brace_that_ends_nothing(self):
        self.check([("}", 0), ("a}", 1), ("{x}}", 3), ("}{x}", 0), ("{each x}}{end}", 8), ("{over a}}", 8), ("{(}}", 3),
                    ("{over a}{block b}}{end}", 17), ("a}{", 1)])

    def test_something_open_at_the_end(self):
        for text in ["{each x}", "{if x}", "{block x}", "{if x}{else}", "{each x}abc", "{each x}{if y}{end}",
                     "{over a}{block b}", "{over a}{block b}{elder}", "a{block b}{(}"]:
            self.assertEqual(outcome(text), ("NoSheet", len(text)))
        for depth in range(1, 13):
            for left in range(1, depth + 1):
                text = nested(["each"] * depth, "a")[:-5 * left]
                self.assertEqual(outcome(text), ("NoSheet", len(text)))


class OtherRefusalsTest(unittest.TestCase):
    def test_more_than_two_thousand_signs(self):
        self.assertEqual(told("x" * 2000), (None, [("lit", "x" * 2000)]))
        for text in ["x" * 2001, "x" * 9000, "\t" * 2001, "%" + "x" * 2000, "}" * 2001, "{" * 2001, "{(}" * 667]:
            self.assertEqual(outcome(text), ("TooMany",))
        self.assertEqual(told("{(}" * 666), (None, [("lit", "{" * 666)]))

    def test_no_sign(self):
        for sign in "%\t\n\x00\x7f":
            self.assertEqual(outcome(sign), ("NoSign", 0))
            self.assertEqual(outcome("ab" + sign + sign), ("NoSign", 2))
            self.assertEqual(outcome("x" * 1999 + sign), ("NoSign", 1999))
            # ahead of all else, also of what stands at an earlier place
            for text in ["}", "{", "{end}", "{over x}a", "{block a}{end}{block a}{end}", nested(["each"] * 13, ""),
                         "{each x}"]:
                self.assertEqual(outcome(text + sign), ("NoSign", len(text)))
            self.assertEqual(outcome("{" + sign + "}"), ("NoSign", 1))

    def test_what_is_no_text(self):
        for thing in OTHERS + [["x"] * 3000, ("x",) * 3000, b"x" * 3000, ["{x}"]]:
            if not isinstance(thing, str):
                self.assertEqual(outcome(thing), ("NoSign", 0))

    def test_twice(self):
        for text in ["{block a}{end}{block a}{end}", "{block a}{block a}{end}{end}",
                     "{block a}{block b}{end}{end}{block b}{end}",
                     "{block b}{end}{each x}{if y}{else}{block b}{end}{end}{end}",
                     "{if x}{block a}{end}{else}{block a}{end}{end}", "{over o}{block a}{end}{block a}{end}",
                     nested(["block"] * 11, "{block e}{end}"), "{block a}{block a}"]:
            name = re.findall(r"\{block ([a-z])\}", text)[-1]
            self.assertEqual(outcome(text), ("Twice", name), text)
        self.assertEqual(outcome("{block b}{end}{block a}{end}{block a}{block b}"), ("Twice", "a"))
        self.assertEqual(outcome("{block end}{end}{block end}{end}"), ("Twice", "end"))
        # other things may be called like a block, and as often as they like
        self.assertIsNone(outcome("{block a}" + "{a}{draw a}{each a}{end}{if a}{end}" * 2 + "{end}"))

    def test_too_many_where_twelve_are_open(self):
        for words in [["each"] * 12, ["if"] * 12, ["block"] * 12, OPENERS * 4]:
            for word in OPENERS:
                self.assertEqual(outcome(nested(words + [word], "")), ("TooMany",))
                self.assertEqual(outcome(nested(words + [word], "}")), ("TooMany",))
                self.assertEqual(outcome(nested(words, "a{x}{" + word + " z}")), ("TooMany",))
            self.assertIsNone(outcome(nested(words, "a{x}{draw z}{(}")))
        self.assertEqual(outcome("{over o}" + nested(["block"] * 12, "{elder}{each x}{end}")), ("TooMany",))
        self.assertIsNone(outcome("{over o}" + nested(["block"] * 12, "{elder}")))
        # behind an else there are as many open as ahead of it
        self.assertEqual(outcome(nested(["each"] * 11 + ["if"], "{else}{if y}{end}")), ("TooMany",))
        # at the brace, so ahead of something open at the end
        self.assertEqual(outcome("{each x}" * 13), ("TooMany",))

    def test_of_several_at_one_place_the_one_named_first(self):
        blocks = ["block"] * 12
        self.assertEqual(outcome(nested(blocks, "{block a}{end}")), ("Twice", "a"))
        self.assertEqual(outcome(nested(blocks, "{block l}{end}")), ("Twice", "l"))
        at = 12 * len("{block a}")
        for inside in ["{each each}", "{block A}", "{block a", "{block a {end}", "{over a}", "{if  x}"]:
            text = "".join(["{block " + name + "}" for name in "abcdefghijkl"]) + inside
            self.assertEqual(outcome(text), ("NoSheet", at), text)
        self.assertEqual(outcome("{block a}{end}{block a"), ("NoSheet", 14))

    def test_of_several_the_first_by_its_place(self):
        twice = "{block a}{end}{block a}{end}"
        many = nested(["each"] * 13, "")
        self.assertEqual(outcome("}" + twice), ("NoSheet", 0))
        self.assertEqual(outcome(twice + "}"), ("Twice", "a"))
        self.assertEqual(outcome(many + twice + "}"), ("TooMany",))
        self.assertEqual(outcome(twice + many), ("Twice", "a"))
        self.assertEqual(outcome("{each x}" * 12 + "}" + "{each x}"), ("NoSheet", 96))
        self.assertEqual(outcome("{over o}a{"), ("NoSheet", 8))
        self.assertEqual(outcome("{over o}{block a}{end}{block a}b}"), ("Twice", "a"))

    def test_a_text_that_is_refused_changes_nothing(self):
        for text in ["{block a}{end}{block a}{end}", "{over x}a", "{each x}"]:
            self.assertEqual(outcome(text), outcome(text))
        self.assertEqual(told("{block a}{end}"), (None, [("block", "a", [])]))


def second_reading(text):
    """What is to be refused of a text of SIGNS, found in another way: by a list of all that stands in it."""
    tokens = [(match.start(), match.group()) for match in re.finditer(r"\{[^{}]*\}|[^{}]|[{}]", text)]
    over = re.match(r"\{over [a-z]{1,8}\}", text)
    stack, blocks = [], []
    for at, token in tokens:
        name = re.fullmatch(r"\{(?:(each|if|block|draw) )?([a-z]{1,8})\}", token)
        word = name.group(1) if name else None
        if token in ("{", "}") or (at == 0 and over):
            fault = token in ("{", "}")
        elif token.startswith("{") and not (name or token in ("{(}", "{)}")):
            fault = True
        else:
            own = name and word in (None, "each", "if") and name.group(2) in BRACE_WORDS
            fault = bool(own) and token not in ("{else}", "{end}", "{elder}")
            fault = fault or (bool(over) and not stack and word != "block")
            fault = fault or (token == "{else}" and stack[-1:] != ["if"]) or (token == "{end}" and not stack)
            fault = fault or (token == "{elder}" and not (over and "block" in stack))
        if fault:
            return ("NoSheet", at)
        if word == "block" and name.group(2) in blocks:
            return ("Twice", name.group(2))
        if word in OPENERS and len(stack) == 12:
            return ("TooMany",)
        blocks += [name.group(2)] if word == "block" else []
        stack += [word] if word in OPENERS else []
        if token == "{end}":
            stack.pop()
        if token == "{else}":
            stack[-1] = "if and else"
    return ("NoSheet", len(text)) if stack else None


class SecondReadingTest(unittest.TestCase):
    def test_texts_of_words_in_braces(self):
        source = random.Random(17)
        good = ["{x}", "{each x}", "{if x}", "{else}", "{end}", "{end}", "{end}", "{elder}", "{draw a}", "{(}", "b",
                "{)}"]
        blocks = ["{block " + name + "}" for name in "abcdefghijklmnopqrs"]
        rare = ["}", "{", "{over a}", "{each  x}", "{if end}", "{}", "{block}", "{block X}"]
        seen = {}
        for number in range(6000):
            tokens = good + source.choice([blocks, blocks * 4, ["{each x}", "{if x}"] * 9])
            tokens += source.choice([[], [], rare])
            text = source.choice(["", "", "{over a}", "{over a}{block z}", "{over end}{block y}{if x}"])
            text += "".join([source.choice(tokens) for token in range(source.randrange(30))])
            wanted = second_reading(text)
            self.assertEqual(outcome(text), wanted, text)
            seen[wanted and wanted[0]] = seen.get(wanted and wanted[0], 0) + 1
        self.assertEqual(sorted(seen, key=str), ["NoSheet", None, "TooMany", "Twice"])
        self.assertGreater(min(seen.values()), 20)

    def test_made_sheets_with_a_sign_changed(self):
        source = random.Random(19)
        for over, pieces in made_sheets(300):
            text = told_by(over, pieces)
            for change in range(10):
                at = source.randrange(len(text) + 1)
                changed = text[:at] + source.choice(["", "{", "}", "x", " ", "{end}"]) + text[at + source.randrange(3):]
                if len(changed) <= 2000:
                    self.assertEqual(outcome(changed), second_reading(changed), changed)

    def test_every_refusal_is_one_of_the_programs(self):
        for text in ["{", "}", "x" * 3000, "\t", None]:
            self.assertRaises(SealError, sheet_read, text)


if __name__ == "__main__":
    unittest.main()

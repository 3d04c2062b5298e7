"""Point 54: sealpress.sheettexts."""

import copy
import unittest

from sealpress.sheets import Sheet, sheet_read
from sealpress.sheettexts import sheet_text
from tests.to_try import ALL, BRACE_WORDS, made_sheets, told_by


class SheetTextTest(unittest.TestCase):
    def test_the_example(self):
        text = "{over base}{block top}a{(}{who}{elder}{end}"
        self.assertEqual(sheet_text(sheet_read(text)), text)

    def test_each_kind_of_piece(self):
        for over, pieces, text in [
                (None, [], ""), ("base", [], "{over base}"), (None, [("lit", "a{}b")], "a{(}{)}b"),
                (None, [("lit", "}")], "{)}"), (None, [("hole", "x")], "{x}"), (None, [("draw", "x")], "{draw x}"),
                (None, [("each", "x", [])], "{each x}{end}"),
                (None, [("block", "x", [("lit", "a")])], "{block x}a{end}"),
                (None, [("if", "x", [], [])], "{if x}{end}"),
                (None, [("if", "x", [("lit", "a")], [])], "{if x}a{end}"),
                (None, [("if", "x", [], [("lit", "a")])], "{if x}{else}a{end}"),
                (None, [("if", "x", [("hole", "y")], [("hole", "z")])], "{if x}{y}{else}{z}{end}"),
                ("end", [("block", "end", [("elder",)]), ("block", "else", [])],
                 "{over end}{block end}{elder}{end}{block else}{end}")]:
            self.assertEqual(sheet_text(Sheet(over, pieces)), text)

    def test_each_sign_as_a_literal(self):
        for sign in ALL:
            text = {"{": "{(}", "}": "{)}"}.get(sign, sign)
            self.assertEqual(sheet_text(Sheet(None, [("lit", sign), ("hole", "x"), ("lit", sign + sign)])),
                             text + "{x}" + text * 2)

    def test_the_text_tells_the_sheet_again(self):
        for over, pieces in made_sheets(300):
            text = sheet_text(Sheet(over, pieces))
            again = sheet_read(text)
            self.assertEqual((again.over, again.pieces), (over, pieces))
            self.assertEqual(text, told_by(over, pieces))

    def test_the_text_of_a_sheet_that_was_read(self):
        texts = ["", "a", "{(}{)}", "{x}", "{each x}{end}", "{if x}{end}", "{if x}a{else}b{end}",
                 "{if x}{else}b{end}", "{if x}{if y}{else}{z}{end}{else}{draw d}{end}", "{over a}",
                 "{over a}{block b}{elder}{end}"]
        for text in texts + ["{block " + word + "}{draw " + word + "}{end}" for word in BRACE_WORDS]:
            self.assertEqual(sheet_text(sheet_read(text)), text)

    def test_an_else_goes_right_ahead_of_its_end(self):
        for text, again in [
                ("{if x}{else}{end}", "{if x}{end}"), ("{if x}a{else}{end}b", "{if x}a{end}b"),
                ("{if x}{if y}{else}{end}{else}{end}", "{if x}{if y}{end}{end}"),
                ("{if x}{else}{if y}{else}{end}{end}", "{if x}{else}{if y}{end}{end}"),
                ("{if x}{else} {end}", "{if x}{else} {end}"), ("{(}else{)}{(}end{)}", "{(}else{)}{(}end{)}")]:
            self.assertEqual(sheet_text(sheet_read(text)), again)

    def test_of_made_sheets_with_an_else_in_each_choice(self):
        tried = 0
        for over, pieces in made_sheets(300):
            text = told_by(over, pieces)
            with_else = told_by(over, pieces, True)
            if len(with_else) <= 2000:
                self.assertEqual(sheet_text(sheet_read(with_else)), text)
                tried += with_else != text
        self.assertGreater(tried, 20)

    def test_in_one_another_to_a_depth_of_twelve(self):
        for head in ["{each x}", "{if x}", "{if x}{else}", "{if x}a{else}b"]:
            text = head * 12 + "c" + "{end}" * 12
            self.assertEqual(sheet_text(sheet_read(text)), text)

    def test_the_sheet_stays(self):
        for over, pieces in made_sheets(60):
            sheet = Sheet(over, pieces)
            kept = copy.deepcopy(pieces)
            sheet_text(sheet)
            self.assertEqual((sheet.over, sheet.pieces), (over, kept))


if __name__ == "__main__":
    unittest.main()

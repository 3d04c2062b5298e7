"""Points 2, 4, 90, 91, 92 and 93: sealpress.desk."""

import random
import unittest

from sealpress.desk import Desk
from sealpress.errors import NoKind, NoRow, NoSign, TooMany
from sealpress.keeper import Keeper
from sealpress.laying import laid
from sealpress.press import pressed
from sealpress.reader import read
from sealpress.texts import page_text
from tests.to_try import ALL, Unequal, book_of, made_data, refused_by, sound_books

NAMES = ["a", "abcdefgh", "each", "if", "sheet", "value", "yes", "no", "none", "rows", "row", "looks"]
NO_NAMES = ["", "A", "aB", "a1", "-", "abcdefghi", "a-b", "_", "{", ";", "."]
TOLD = ["sheet", "value", "truth", "rows", "row", "cell", "mark"]
ASKED = ["press", "look", "looks", "chain", "leans", "read"]


def desk_of(*rows):
    desk = Desk()
    for row in rows:
        if desk.say(row) != "ok":
            raise AssertionError(row)
    return desk


def rows_for(texts, data):
    """The rows by which sheets and data are told; of data in which rows have texts and truths alone."""
    rows = ["sheet " + name + " " + text for name, text in texts.items()]
    for name, value in data.items():
        if isinstance(value, list):
            rows.append(["rows " + name])
            for cells in value:
                rows[-1].append("row " + name)
                rows[-1] += [told_row(["cell", "mark"], name + " " + key, cells[key]) for key in cells]
        else:
            rows.append(told_row(["value", "truth"], name, value))
    # rows of one list stay together, whatever the order
    return [row if isinstance(row, list) else [row] for row in rows]


def data_told(source):
    """Data of which a desk can be told: in rows stand texts and truths alone."""
    data = made_data(source, 1)
    for row in data["l"] + data["m"]:
        row.update({name: "x" for name in row if isinstance(row[name], list)})
    return data


def told_row(words, names, value):
    if isinstance(value, str):
        return words[0] + " " + names + " " + value
    return words[1] + " " + names + " " + ("yes" if value else "no")


def answers(desk):
    """All that a desk of the sheets a to g answers, but looks."""
    asked = ["press ", "look ", "chain ", "leans "]
    return [refused_by(desk.say, word + name) for word in asked for name in "abcdefg"]


class ToldTest(unittest.TestCase):
    def test_sheets(self):
        desk = Desk()
        self.assertEqual(desk.say("sheet page <p>{x}</p>"), "ok")
        self.assertEqual(desk.say("value x a b"), "ok")
        self.assertEqual(desk.say("press page"), "<p>a b</p>")
        self.assertEqual(desk.say("sheet page  x  {x} "), "ok")
        self.assertEqual(desk.say("press page"), " x  a b ")
        self.assertEqual(desk.say("sheet page "), "ok")
        self.assertEqual(desk.say("press page"), "")

    def test_values(self):
        desk = desk_of("sheet page ({x})")
        plain = ALL.replace("&", "").replace("<", "")
        for text in ["", " ", "  ", "a", " a", "a ", " a  b ", "value x y", "yes", plain]:
            self.assertEqual(desk.say("value x " + text), "ok")
            self.assertEqual(desk.say("press page"), "(" + text + ")")
        desk.say("value x <&")
        self.assertEqual(desk.say("press page"), "(&27;&05;)")

    def test_truths(self):
        desk = desk_of("sheet page {if i}1{else}2{end}")
        for word, text in [("yes", "1"), ("no", "2"), ("no", "2"), ("yes", "1")]:
            self.assertEqual(desk.say("truth i " + word), "ok")
            self.assertEqual(desk.say("press page"), text)

    def test_rows_cells_and_marks(self):
        desk = desk_of("sheet page {each l}[{x}{if i}{y}{end}]{end}", "value x 0", "truth i no", "rows l")
        for row, text in [
                ("row l", "[0]"), ("cell l x 1", "[1]"), ("cell l x  2 ", "[ 2 ]"), ("cell l x ", "[]"),
                ("mark l i no", "[]"), ("row l", "[][0]"), ("cell l y  z", "[][0]"), ("mark l i yes", "[][0 z]"),
                ("row l", "[][0 z][0]"), ("cell l x 3", "[][0 z][3]"), ("rows l", "")]:
            self.assertEqual(desk.say(row), "ok")
            self.assertEqual(desk.say("press page"), text)

    def test_in_the_place_of_the_value_it_had(self):
        desk = desk_of("sheet h {x}", "sheet c {if x}1{else}2{end}", "sheet l {each x}3{end}")
        said = {"h": ("value x a", "a"), "c": ("truth x yes", "1"), "l": ("rows x", "")}
        for one in said:
            for other in said:
                desk.say(said[one][0])
                desk.say(said[other][0])
                for name in said:
                    told = said[name][1] if name == other else ("NoKind", "x")
                    self.assertEqual(refused_by(desk.say, "press " + name), told)
        desk.say("row x")
        desk.say("rows x")
        self.assertEqual(desk.say("press l"), "")

    def test_names_are_any_names(self):
        for name in NAMES:
            desk = Desk()
            for row in ["sheet " + name + " a{x}", "value " + name + " b", "truth " + name + " no", "rows " + name,
                        "row " + name, "cell " + name + " " + name + " c", "mark " + name + " " + name + " yes"]:
                self.assertEqual(desk.say(row), "ok", row)
            desk.say("value x y")
            self.assertEqual(desk.say("press " + name), "ay")

    def test_sixty_rows(self):
        desk = desk_of("sheet page {each l}{x}{end}", "value x 1", "rows l", *["row l"] * 60)
        self.assertEqual(desk.say("press page"), "1" * 60)
        self.assertEqual(refused_by(desk.say, "row l"), ("NoKind", "l"))
        self.assertEqual(desk.say("press page"), "1" * 60)
        self.assertEqual(desk.say("cell l x 2"), "ok")
        self.assertEqual(desk.say("press page"), "1" * 59 + "2")


class AskedTest(unittest.TestCase):
    def test_press(self):
        desk = desk_of("sheet base <p a:{x}>{block p}{end}{draw part}</p>",
                       "sheet page {over base}{block p}{y}{elder}!{end}", "sheet part <b c=\"{y}\"/>",
                       "value x a b", "value y \"<")
        self.assertEqual(desk.say("press page"), "<p a:a~00b>\"&27;!<b c=\"&02;<\"/></p>")
        self.assertEqual(desk.say("press base"), "<p a:a~00b><b c=\"&02;<\"/></p>")
        self.assertEqual(desk.say("press part"), "<b c=\"&02;<\"/>")

    def test_look(self):
        desk = desk_of("sheet page <p a:{x} b(,{y},) c!\"'{z}'\" d=\"{x}\">{y}</p>", "sheet none x", "sheet one {x}")
        self.assertEqual(desk.say("look page"), "x bare; y row; z said; x quoted; y text")
        self.assertEqual(desk.say("look none"), "none")
        self.assertEqual(desk.say("look one"), "x text")

    def test_looks(self):
        desk = desk_of("sheet page {draw a}<p q=\"{draw a}{draw b}\"/>", "sheet a {x}", "sheet b {draw a}")
        self.assertEqual(desk.say("looks"), "none")
        desk.say("look page")
        for number in range(2):
            self.assertEqual(desk.say("looks"), "a text . .; a quoted . .; b quoted . .")
        desk.say("look page")
        self.assertEqual(desk.say("looks"), "none")
        desk.say("sheet b {draw a}")
        self.assertEqual(desk.say("looks"), "none")
        desk.say("look page")
        self.assertEqual(desk.say("looks"), "b quoted . .")

    def test_looks_with_a_word_and_a_talk(self):
        desk = desk_of("sheet page &2{draw a}7;<p{draw a} q!\"{draw a}w{draw a}'{draw a}\\{draw a}x&0{draw a}0;'\"/>",
                       "sheet a ")
        self.assertEqual(desk.say("look page"), "none")
        self.assertEqual(desk.say("looks"), "a mark 2 .; a name p .; a talk . between; a talk . word; a talk . said; "
                                            "a talk . stroke; a tmark 0 said")

    def test_looks_behind_a_refused_look(self):
        desk = desk_of("sheet good {draw a}", "sheet bad {draw b}<<", "sheet a x", "sheet b y",
                       "sheet both {draw a}{draw b}")
        desk.say("look good")
        self.assertEqual(refused_by(desk.say, "look bad"), ("Astray", ([], 3), 1))
        self.assertEqual(refused_by(desk.say, "look none"), ("Unknown", "none"))
        self.assertEqual(desk.say("looks"), "a text . .")
        # what was looked at without fault is kept, though
        desk.say("look both")
        self.assertEqual(desk.say("looks"), "none")
        other = desk_of("sheet bad {draw b}<<", "sheet b y")
        self.assertRaises(ValueError, other.say, "look bad")
        self.assertEqual(other.say("looks"), "none")

    def test_press_looks_at_nothing_for_looks(self):
        desk = desk_of("sheet page {draw a}", "sheet a x")
        self.assertEqual(desk.say("press page"), "x")
        self.assertEqual(desk.say("looks"), "none")
        desk.say("look page")
        self.assertEqual(desk.say("looks"), "a text . .")
        desk.say("press page")
        self.assertEqual(desk.say("looks"), "a text . .")

    def test_chain_and_leans(self):
        desk = desk_of("sheet a {over b}{block p}{draw d}{end}", "sheet b {over c}", "sheet c x",
                       "sheet z {draw none}{draw a}")
        for row, text in [("chain a", "a b c"), ("chain c", "c"), ("chain z", "z"), ("leans a", "a b c d"),
                          ("leans c", "c"), ("leans z", "a b c d none z"), ("leans none", "none")]:
            self.assertEqual(desk.say(row), text)

    def test_read(self):
        desk = Desk()
        for text, told in [
                ("", "text ."), (" ", "text .~00"), ("a  b ", "text .a~00~00b~00"),
                ("<a b:x~00y c!\"hi 'me'\"/>&27;",
                 "text .\nbox a b:bare:.x~00y c:talk:word.hi,said.me\ntext .\nout\ntext .~27"),
                ("<a b=\"\" c(1,,2) d!\"\" e()>x</a>",
                 "text .\nbox a b:quoted:. c:row:.1,.,.2 d:talk: e:row:.\ntext .x\nout\ntext ."),
                ("<asis></a></asis>", "text .\nbox asis\ntext .~27~14a~29\nout\ntext .")]:
            self.assertEqual(desk.say("read " + text), told)
            self.assertEqual(page_text(read(text)), told)


class NoRowTest(unittest.TestCase):
    def setUp(self):
        self.rows = ["sheet a {x}{each l}{y}{end}", "value x 1", "rows l", "row l", "cell l y 2"]
        self.desk = desk_of(*self.rows)

    def assert_no_row(self, row):
        self.assertEqual(refused_by(self.desk.say, row), ("NoRow",), row)

    def tearDown(self):
        # nothing that was refused has changed anything
        self.assertEqual(self.desk.say("press a"), "12")
        self.assertEqual(self.desk.say("look a"), "x text; y text")

    def test_what_is_no_text(self):
        for thing in [None, True, 7, [], ["press a"], ("press", "a"), {}, b"press a", Unequal()]:
            with self.assertRaises(NoRow):
                self.desk.say(thing)

    def test_a_sign_that_is_none(self):
        for row, at in [("press\ta", 5), ("value x a%", 9), ("%", 0), ("press a\n", 7), ("sheet a {\t", 9),
                        ("read \x7f", 5), ("none\t", 4), ("cell l y " + "z" * 3000 + "\n%", 3009),
                        ("sheet a " + "x" * 2001 + "\t", 2009)]:
            self.assertEqual(refused_by(self.desk.say, row), ("NoSign", at))

    def test_other_words(self):
        for row in ["", " ", "a", "none", "Press a", "PRESS a", "press: a", "sheets a", "values x y", "cells l y z",
                    "ok", "text .", "tell a b", "names", "book", " press a", "  ", "look; a", "yes", "lookss", "name"]:
            self.assert_no_row(row)

    def test_too_few_words(self):
        for word in TOLD + ASKED[:2] + ASKED[3:]:
            self.assert_no_row(word)
        for row in ["sheet a", "value x", "truth x", "cell l", "cell l y", "mark l", "mark l i"]:
            self.assert_no_row(row)

    def test_too_many_words(self):
        for row in ["truth x yes no", "truth x yes ", "rows l l", "rows l ", "row l l", "row l ", "mark l i yes yes",
                    "mark l i yes ", "press a a", "press a ", "look a a", "look a ", "looks a", "looks ", "chain a a",
                    "chain a ", "leans a a", "leans a "]:
            self.assert_no_row(row)

    def test_two_blanks(self):
        for row in ["sheet  a x", "value  x y", "truth  x yes", "truth x  yes", "rows  l", "row  l", "cell  l y z",
                    "cell l  y z", "mark  l i yes", "mark l  i yes", "mark l i  yes", "press  a", "look  a", "chain  a",
                    "leans  a", " looks"]:
            self.assert_no_row(row)

    def test_what_is_no_name(self):
        for name in NO_NAMES:
            for row in ["sheet N x", "value N x", "truth N yes", "rows N", "row N", "cell N y z", "cell l N z",
                        "mark N i yes", "mark l N yes", "press N", "look N", "chain N", "leans N"]:
                self.assert_no_row(row.replace("N", name))

    def test_neither_yes_nor_no(self):
        for word in ["", "Yes", "NO", "y", "n", "true", "1", "yesno", "yes.", "maybe"]:
            self.assert_no_row("truth x " + word)
            self.assert_no_row("mark l i " + word)

    def test_no_row_is_ahead_of_no_kind_and_of_what_the_stages_refuse(self):
        for row in ["cell none A z", "mark none i maybe", "row none ", "sheet A {", "press none "]:
            self.assert_no_row(row)


class RefusedTest(unittest.TestCase):
    def test_row_cell_and_mark_where_there_is_no_list(self):
        desk = desk_of("value v x", "truth t yes", "rows l", "sheet h {v}{if t}1{end}{each l}2{end}")
        for name in ["v", "t", "none", "h"]:
            for row in ["row " + name, "cell " + name + " k x", "mark " + name + " k no"]:
                with self.assertRaises(NoKind) as caught:
                    desk.say(row)
                self.assertEqual(caught.exception.name, name)
        self.assertEqual(desk.say("press h"), "x1")

    def test_cell_and_mark_where_the_list_has_no_row(self):
        desk = desk_of("rows l", "sheet h {each l}{k}{end}")
        for row in ["cell l k x", "mark l k yes"]:
            self.assertEqual(refused_by(desk.say, row), ("NoKind", "l"))
        self.assertEqual(desk.say("press h"), "")
        desk.say("row l")
        self.assertEqual(refused_by(desk.say, "press h"), ("NoValue", "k"))
        desk.say("cell l k x")
        desk.say("rows l")
        self.assertEqual(refused_by(desk.say, "cell l k x"), ("NoKind", "l"))

    def test_sheets_are_refused_as_a_book_refuses(self):
        desk = desk_of("sheet a x{x}", *["sheet b" + letter + " x" for letter in "abcdefghijklmnopqrs"])
        for row, told in [("sheet a {", ("NoSheet", 0)), ("sheet a x}", ("NoSheet", 1)),
                          ("sheet a {block p}{end}{block p}{end}", ("Twice", "p")),
                          ("sheet a " + "x" * 2001, ("TooMany",)), ("sheet z x", ("TooMany",)),
                          ("sheet z {", ("NoSheet", 0))]:
            self.assertEqual(refused_by(desk.say, row), told)
        self.assertEqual(desk.say("look a"), "x text")
        self.assertEqual(desk.say("sheet a " + "x" * 2000), "ok")
        self.assertRaises(TooMany, desk.say, "sheet z x")
        self.assertRaises(NoSign, desk.say, "sheet z \t")

    def test_press_and_look_are_refused_as_the_stages_refuse(self):
        desk = desk_of("sheet a {draw none}", "sheet b {draw b}", "sheet c {over c}", "sheet d <p>{x}", "sheet e <{x}",
                       "sheet f {x}{if x}{end}", "sheet g {each x}<p>{end}", "sheet h {x}</p>", "sheet i {z}",
                       "value x 1")
        for name, told in [("none", ("Unknown", "none")), ("a", ("Unknown", "none")),
                           ("b", ("Ringed", [("b", "draw", "b", "")])), ("c", ("RingOver", ["c"])),
                           ("d", ("LeftOpen", ([], 2))), ("e", ("NoPlace", "x", ([], 1))),
                           ("g", ("Unlike", ("each", "x"), ([0], 0), ([1], 1))), ("h", ("Astray", ([], 1), 3))]:
            self.assertEqual(refused_by(desk.say, "press " + name), told)
            self.assertEqual(refused_by(desk.say, "look " + name), told)
        self.assertEqual(refused_by(desk.say, "press f"), ("NoKind", "x"))
        self.assertEqual(desk.say("look f"), "x text")
        self.assertEqual(refused_by(desk.say, "press i"), ("NoValue", "z"))
        self.assertEqual(refused_by(desk.say, "chain c"), ("RingOver", ["c"]))
        self.assertEqual(refused_by(desk.say, "chain none"), ("Unknown", "none"))

    def test_read_is_refused_as_reading_is(self):
        for text, told in [("<<", ("Unread", 1)), ("x</a>", ("Unread", 4)), ("<a>", ("Unended",)), ("&", ("Unended",))]:
            self.assertEqual(refused_by(Desk().say, "read " + text), told)


class AnyDesksTest(unittest.TestCase):
    def test_what_stands_is_answered(self):
        source = random.Random(90)
        pressed_many = 0
        for texts in sound_books(40):
            data = data_told(source)
            desk = desk_of(*[row for rows in rows_for(texts, data) for row in rows])
            book = book_of(texts)
            for name in texts:
                told = refused_by(lambda: pressed(laid(book, name), data)[0])
                self.assertEqual(refused_by(desk.say, "press " + name), told)
                pressed_many += isinstance(told, str) and len(told) > 40
        self.assertGreater(pressed_many, 40)

    def test_the_order_and_what_was_told_before_change_nothing(self):
        source = random.Random(93)
        for texts in sound_books(25):
            data = data_told(source)
            rows = rows_for(texts, data)
            told = answers(desk_of(*[row for some in rows for row in some]))
            others = sound_books(3)[source.randrange(3)]
            first = [row for some in rows_for(others, made_data(source, 0)) for row in some]
            for turn in range(3):
                source.shuffle(rows)
                ahead = source.choice([[], first])
                self.assertEqual(answers(desk_of(*ahead, *[row for some in rows for row in some])), told)

    def test_asking_changes_nothing(self):
        for texts in sound_books(10):
            desk = desk_of(*["sheet " + name + " " + text for name, text in texts.items()], "value x 1")
            told = answers(desk)
            self.assertEqual(answers(desk), told)

    def test_two_desks_have_nothing_to_do_with_one_another(self):
        one, other = Desk(), Desk()
        for row in ["sheet a {x}{draw b}{each l}{y}{end}", "sheet b {y}", "value x 1", "value y 2", "rows l", "row l",
                    "cell l y 3"]:
            self.assertEqual((one.say(row), other.say(row.replace("x 1", "x 9"))), ("ok", "ok"))
        for row, told in [("press a", "123"), ("look a", "x text; y text; y text"), ("looks", "b text . .")]:
            self.assertEqual((one.say(row), other.say(row)), (told, told.replace("1", "9")))
        one.say("sheet b ")
        one.say("rows l")
        self.assertEqual((one.say("press a"), other.say("press a")), ("1", "923"))
        other.say("look a")
        self.assertEqual((one.say("looks"), other.say("looks")), ("b text . .", "none"))
        self.assertEqual(Desk().say("leans a"), "a")
        self.assertEqual(refused_by(Desk().say, "press a"), ("Unknown", "a"))

    def test_looks_are_those_of_a_keeper(self):
        for texts in sound_books(30):
            desk = desk_of(*["sheet " + name + " " + text for name, text in texts.items()])
            keeper = Keeper()
            for name, text in texts.items():
                keeper.tell(name, text)
            for name in "fedcbaab":
                told = refused_by(keeper.look, name)
                if isinstance(told[0], str):
                    self.assertEqual(refused_by(desk.say, "look " + name), told)
                    continue
                places = "; ".join([" ".join(pair) for pair in told[0]]) or "none"
                self.assertEqual(desk.say("look " + name), places)
                looks = [[part, mode, word or ".", talk or "."] for part, (mode, word, opens, talk) in told[1]]
                self.assertEqual(desk.say("looks"), "; ".join([" ".join(words) for words in looks]) or "none")


if __name__ == "__main__":
    unittest.main()

"""Points 2, 4, 75 and 76: sealpress.keeper."""

import random
import unittest

from sealpress.book import Book
from sealpress.chains import leans_on
from sealpress.errors import (Astray, LeftOpen, NoElder, NoName, NoPlace, NoSheet, NoSign, RingOver, Ringed, TooMany,
                              Twice, Unknown, Unlike)
from sealpress.keeper import Keeper
from sealpress.laying import laid
from sealpress.looker import look
from sealpress.sheets import Sheet
from sealpress.steps import floored, is_end
from sealpress.ways import state_at
from tests.to_try import NO_NAMES, book_of, fault_at, lists_in, loose_books, passed, place_by, refused_by, sound_books

TEXT = ("text", "", (), "")
QUOTED = ("quoted", "", (), "")
BARE = ("bare", "", (), "")


def keeper_of(texts):
    keeper = Keeper()
    for name, text in texts.items():
        keeper.tell(name, text)
    return keeper


class Found(Exception):
    """A refusal's name and fields."""


class SlowKeeper:
    """What a keeper tells, each state found anew from the beginning of the page."""

    def __init__(self, texts):
        self.book = book_of(texts)
        self.kept = set()

    def tell(self, name, text):
        self.book.tell(name, text)
        self.kept = {pair for pair in self.kept if name not in leans_on(self.book, pair[0])}

    def look(self, name):
        pieces = laid(self.book, name)
        looks = []
        try:
            self.go(pieces, pieces, [], looks)
        except Found as found:
            return found.args[0]
        if not is_end(state_at(pieces, passed(pieces))):
            return ("LeftOpen", passed(pieces))
        return (look(pieces), looks)

    def go(self, pieces, inner, path, looks):
        for number, piece in enumerate(inner):
            here = path + [number]
            pair = None
            if piece[:2] == ("seat", "draw"):
                pair = (piece[2], floored(state_at(pieces, place_by(pieces, here))))
                if pair in self.kept:
                    continue
                looks.append(pair)
            for at, part in enumerate(piece):
                if isinstance(part, list):
                    self.go(pieces, part, here + [at], looks)
            fault = fault_at(pieces, piece, here)
            if fault is not None:
                raise Found(fault)
            if pair is not None:
                self.kept.add(pair)


class BookTest(unittest.TestCase):
    def test_sheets_are_told_as_to_a_book(self):
        keeper = Keeper()
        self.assertEqual(keeper.names(), [])
        self.assertIsNone(keeper.tell("page", "{over base}{block p}{if x}1{end}{end}"))
        self.assertIsNone(keeper.tell("base", "{block p}{end}"))
        self.assertEqual(keeper.names(), ["base", "page"])
        sheet = keeper.sheet("page")
        self.assertIsInstance(sheet, Sheet)
        self.assertEqual((sheet.over, sheet.pieces), ("base", [("block", "p", [("if", "x", [("lit", "1")], [])])]))
        keeper.tell("page", "x")
        self.assertEqual((keeper.sheet("page").over, keeper.sheet("page").pieces), (None, [("lit", "x")]))

    def test_the_same_refusals(self):
        keeper = keeper_of({letter * 2: "x" for letter in "abcdefghijklmnopqrst"})
        for thing in NO_NAMES:
            with self.assertRaises(NoName) as caught:
                keeper.tell(thing, "{")
            self.assertIs(caught.exception.name, thing)
        for name, text, refusal, fields in [
                ("aa", "x" * 2001, TooMany, ()), ("aa", "a\t", NoSign, (1,)), ("aa", None, NoSign, (0,)),
                ("zz", "ab{", NoSheet, (2,)), ("zz", "{block p}{end}{block p}{end}", Twice, ("p",)),
                ("zz", "x", TooMany, ())]:
            self.assertEqual(refused_by(keeper.tell, name, text), (refusal.__name__,) + fields)
        self.assertEqual(refused_by(keeper.sheet, "zz"), ("Unknown", "zz"))
        self.assertEqual(len(keeper.names()), 20)
        self.assertEqual(keeper.sheet("aa").pieces, [("lit", "x")])
        self.assertIsNone(keeper.tell("aa", "y"))

    def test_the_book_is_a_copy(self):
        keeper = keeper_of({"a": "{each l}1{end}", "b": "{draw a}"})
        book = keeper.book()
        self.assertIsInstance(book, Book)
        self.assertEqual((book.names(), book.sheet("a").pieces), (["a", "b"], [("each", "l", [("lit", "1")])]))
        book.tell("a", "2")
        book.tell("c", "3")
        self.assertEqual((keeper.names(), keeper.sheet("a").pieces), (["a", "b"], [("each", "l", [("lit", "1")])]))
        keeper.tell("b", "4")
        keeper.tell("d", "")
        self.assertEqual((book.names(), book.sheet("b").pieces), (["a", "b", "c"], [("draw", "a")]))

    def test_told_lists_are_the_askers_own(self):
        keeper = keeper_of({"a": "{each l}1{end}{draw b}{x}", "b": "{y}"})
        keeper.names().append("mine")
        for found in lists_in(keeper.sheet("a").pieces) + lists_in(keeper.book().sheet("a").pieces):
            found.append(("lit", "mine"))
        self.assertEqual(keeper.names(), ["a", "b"])
        self.assertEqual(keeper.sheet("a").pieces, [("each", "l", [("lit", "1")]), ("draw", "b"), ("hole", "x")])
        self.assertEqual(keeper.look("a"), ([("y", "text"), ("x", "text")], [("b", TEXT)]))

    def test_two_keepers_have_nothing_to_do_with_one_another(self):
        texts = {"a": "{draw b}", "b": "{x}"}
        one, other = keeper_of(texts), keeper_of(texts)
        one.look("a")
        self.assertEqual(other.look("a"), ([("x", "text")], [("b", TEXT)]))
        one.tell("c", "")
        self.assertEqual(other.names(), ["a", "b"])


class LookTest(unittest.TestCase):
    def test_places(self):
        keeper = keeper_of({"a": "{over c}{block p}{elder}{y}{end}", "c": "<b c=\"{x}{block p}{draw d}{end}\"/>{z}",
                            "d": "{each l}{x}{end}{if i}{z}{end}"})
        self.assertEqual(keeper.look("a"), ([("x", "quoted"), ("x", "quoted"), ("z", "quoted"), ("y", "quoted"),
                                             ("z", "text")], [("d", QUOTED)]))
        self.assertEqual(keeper.look("d"), ([("x", "text"), ("z", "text")], []))

    def test_refused_as_laying_is(self):
        texts = {"a": "{draw none}", "b": "{draw b}", "c": "{over c}", "d": "{block p}{end}",
                 "e": "{over d}{block p}{block q}{elder}{end}{end}", "f": "{x}" * 601, "g": "<<{draw none}"}
        keeper = keeper_of(texts)
        for name, refusal, fields in [
                ("none", Unknown, ("none",)), ("a", Unknown, ("none",)), ("b", Ringed, ([("b", "draw", "b", "")],)),
                ("c", RingOver, (["c"],)), ("e", NoElder, ("q",)), ("f", TooMany, ()), ("g", Unknown, ("none",))]:
            self.assertEqual(refused_by(keeper.look, name), (refusal.__name__,) + fields)

    def test_refused_as_looking_is(self):
        keeper = keeper_of({"part": "{if i}{x}{else}<a/>{end}{each l}{end}", "astray": "<p>{draw part}{draw part}</q>",
                            "place": "<p>{draw part}</p {x}", "unlike": "{draw part}{each l}<p>{draw part}{end}",
                            "open": "{draw part}<p>{draw part}", "seat": "{draw part}{draw open}"})
        for number in range(2):
            for name, refusal, fields in [
                    ("astray", Astray, (([0, 0, 0, 0], 7), 3)), ("place", Astray, (([0, 0], 4), 3)),
                    ("unlike", Unlike, (("each", "l"), ([0, 0, 0], 3), ([0, 0, 1, 0, 0], 7))),
                    ("open", LeftOpen, (([0, 0, 0, 0], 7),)),
                    ("seat", Unlike, (("seat", "draw", "open", ""), ([0, 0], 4), ([0, 0, 0, 0, 0, 0], 11)))]:
                self.assertEqual(refused_by(keeper.look, name), (refusal.__name__,) + fields)
                self.assertEqual(refused_by(look, laid(keeper.book(), name)), (refusal.__name__,) + fields)

    def test_a_hole_without_a_place_behind_a_kept_part(self):
        keeper = keeper_of({"part": "x{if i}{y}{z}{end}", "a": "{draw part}<asis>{x}"})
        for number in range(2):
            self.assertEqual(refused_by(keeper.look, "a"), (NoPlace.__name__, "x", ([0], 6)))


class LooksTest(unittest.TestCase):
    def test_pairs_in_the_order_in_which_they_are_come_to(self):
        keeper = keeper_of({"a": "{draw b}<p q=\"{draw c}\" r:{draw d}/>{draw d}", "b": "{draw c}<p>{draw d}</p>",
                            "c": "{draw e}", "d": "{x}", "e": "y"})
        places, looks = keeper.look("a")
        self.assertEqual(places, [("x", "text"), ("x", "bare"), ("x", "text")])
        self.assertEqual(looks, [("b", TEXT), ("c", TEXT), ("e", TEXT), ("d", TEXT), ("c", QUOTED), ("e", QUOTED),
                                 ("d", BARE)])

    def test_in_loops_and_choices_and_blocks(self):
        page = "{each l}{draw b}{end}{if i}<p q=\"{draw b}\"/>{else}<p q:{draw b}/>{end}{block p}{draw c}{end}"
        keeper = keeper_of({"a": page, "b": "{x}", "c": "{draw b}y"})
        self.assertEqual(keeper.look("a"), ([("x", "text"), ("x", "quoted"), ("x", "bare"), ("x", "text")],
                                            [("b", TEXT), ("b", QUOTED), ("b", BARE), ("c", TEXT)]))

    def test_a_part_drawn_twice_at_one_floored_state_stands_there_once(self):
        keeper = keeper_of({"a": "{draw b}<p>{draw b}<q>{draw b}</q></p>{each l}{draw b}{end}", "b": "{x}"})
        self.assertEqual(keeper.look("a"), ([("x", "text")] * 4, [("b", TEXT)]))

    def test_states_with_a_word_or_a_talk(self):
        keeper = keeper_of({"a": "&2{draw b}7;<p q!\"{draw c}'{draw c}'\"/><asis><{draw e}/</asis>", "b": "", "c": "",
                            "e": ""})
        self.assertEqual(keeper.look("a"), ([], [
            ("b", ("mark", "2", (), "")), ("c", ("talk", "", (), "between")), ("c", ("talk", "", (), "said")),
            ("e", ("asis", "<", (), ""))]))

    def test_asked_again_nothing_is_looked_at(self):
        keeper = keeper_of({"a": "{draw b}{draw c}", "b": "{x}{draw c}", "c": "{y}", "d": "<p>{draw b}</p>{draw e}",
                            "e": "z"})
        places = [("x", "text"), ("y", "text"), ("y", "text")]
        self.assertEqual(keeper.look("a"), (places, [("b", TEXT), ("c", TEXT)]))
        for number in range(2):
            self.assertEqual(keeper.look("a"), (places, []))
        self.assertEqual(keeper.look("d"), (places[:2], [("e", TEXT)]))

    def test_the_asked_page_makes_no_pair_by_itself(self):
        keeper = keeper_of({"a": "{draw b}", "b": "{x}"})
        self.assertEqual(keeper.look("b"), ([("x", "text")], []))
        self.assertEqual(keeper.look("a"), ([("x", "text")], [("b", TEXT)]))
        self.assertEqual(keeper.look("b"), ([("x", "text")], []))

    def test_what_stands_in_a_kept_part_is_not_come_to(self):
        keeper = keeper_of({"a": "{draw b}", "b": "{draw c}", "c": "{x}", "d": "{draw c}"})
        keeper.look("a")
        self.assertEqual(keeper.look("d"), ([("x", "text")], []))
        other = keeper_of({"a": "{draw c}", "b": "{draw a}{draw c}", "c": "{x}"})
        other.look("b")
        self.assertEqual(other.look("b"), ([("x", "text")] * 2, []))

    def test_a_pair_is_kept_also_where_the_asking_is_refused_behind_it(self):
        keeper = keeper_of({"a": "{draw b}</p>", "b": "{x}", "c": "{draw b}"})
        self.assertEqual(refused_by(keeper.look, "a"), ("Astray", ([], 3), 3))
        self.assertEqual(keeper.look("c"), ([("x", "text")], []))
        keeper = keeper_of({"a": "{draw b}<p>", "b": "{draw c}{draw d}", "c": "{x}", "d": "{y}"})
        self.assertRaises(LeftOpen, keeper.look, "a")
        keeper.tell("a", "{draw d}{draw c}{draw b}")
        self.assertEqual(keeper.look("a")[1], [])

    def test_a_pair_is_not_kept_where_the_part_or_its_seat_is_refused(self):
        for part, refusal in [("{draw c}</p>", Astray), ("{draw c}<p {x}", NoPlace), ("{draw c}<p>", Unlike),
                              ("{draw c}{each l}<p>{end}", Unlike)]:
            keeper = keeper_of({"a": "{draw b}", "b": part, "c": "{y}", "e": "{draw c}"})
            for number in range(2):
                self.assertRaises(refusal, keeper.look, "a")
            # the part within it was without a fault, and is kept
            self.assertEqual(keeper.look("e"), ([("y", "text")], []))
            keeper.tell("b", "{draw c}")
            self.assertEqual(keeper.look("a"), ([("y", "text")], [("b", TEXT)]))

    def test_one_part_may_be_refused_at_one_state_alone(self):
        keeper = keeper_of({"a": "<p q=\"{draw b}\"/>{draw b}", "b": "</", "c": "<p q=\"{draw b}\"/>"})
        self.assertRaises(Unlike, keeper.look, "a")
        self.assertEqual(keeper.look("c"), ([], []))

    def test_a_pair_is_not_kept_where_laying_is_refused(self):
        keeper = keeper_of({"a": "{draw b}{draw none}", "b": "{x}", "c": "{draw b}"})
        self.assertRaises(Unknown, keeper.look, "a")
        self.assertEqual(keeper.look("c"), ([("x", "text")], [("b", TEXT)]))

    def test_told_lists_changed_change_nothing(self):
        keeper = keeper_of({"a": "{draw b}", "b": "{x}{draw c}", "c": "{y}"})
        told = keeper.look("a")
        kept = ([("x", "text"), ("y", "text")], [("b", TEXT), ("c", TEXT)])
        self.assertEqual(told, kept)
        for found in keeper.look("a") + keeper.look("b"):
            found.append("mine")
        keeper.look("a")[0].clear()
        self.assertEqual(keeper.look("a"), (kept[0], []))
        keeper.tell("b", "")
        keeper.look("a")
        self.assertEqual(told, kept)


class LetGoTest(unittest.TestCase):
    TEXTS = {"page": "{draw a}{draw b}{draw e}{draw f}", "a": "{x}", "b": "{draw c}", "c": "{over d}{block p}{y}{end}",
             "d": "{block p}{end}", "e": "{block q}{draw g}{end}{z}", "f": "", "g": "w"}

    def looks_behind(self, name, text):
        """The names that are looked at where a sheet is told behind a look."""
        keeper = keeper_of(self.TEXTS)
        first = [part for part, state in keeper.look("page")[1]]
        self.assertEqual(first, ["a", "b", "c", "e", "g", "f"])
        keeper.tell(name, text)
        places, looks = keeper.look("page")
        self.assertEqual(places, look(laid(keeper.book(), "page")))
        self.assertEqual(keeper.look("page"), (places, []))
        return [part for part, state in looks]

    def test_just_those_that_lean_on_it(self):
        for name, letting in [("a", ["a"]), ("b", ["b"]), ("c", ["b", "c"]), ("d", ["b", "c"]), ("e", ["e"]),
                              ("f", ["f"]), ("g", ["e", "g"]), ("new", [])]:
            self.assertEqual(self.looks_behind(name, self.TEXTS.get(name, "x")), letting, name)
            self.assertEqual(self.looks_behind(name, "{block p}{v}{end}"), letting, name)
        self.assertEqual(self.looks_behind("page", self.TEXTS["page"] + "x"), [])

    def test_draws_in_blocks_that_are_never_laid(self):
        texts = dict(self.TEXTS, c="{over d}{block none}{draw h}{end}", h="")
        keeper = keeper_of(texts)
        keeper.look("page")
        keeper.tell("h", "x")
        self.assertEqual([part for part, state in keeper.look("page")[1]], ["b", "c"])

    def test_all_states_of_a_part_are_let_go(self):
        keeper = keeper_of({"a": "{draw b}<p q=\"{draw b}\" r:{draw b}{draw c}/>", "b": "x", "c": "y"})
        looks = [("b", TEXT), ("b", QUOTED), ("b", BARE), ("c", BARE)]
        self.assertEqual(keeper.look("a")[1], looks)
        keeper.tell("b", "x")
        self.assertEqual(keeper.look("a")[1], looks[:3])

    def test_what_is_refused_of_a_telling_lets_go_nothing(self):
        keeper = keeper_of(dict(self.TEXTS, **{letter * 2: "" for letter in "abcdefghijkl"}))
        keeper.look("page")
        for name, text in [("a", "{"), ("a", "\t"), ("b", "x" * 2001), ("g", "{block p}{end}{block p}{end}"),
                           ("zz", ""), ("A", "x"), (None, "x")]:
            self.assertIsInstance(refused_by(keeper.tell, name, text), tuple)
            self.assertEqual(keeper.look("page")[1], [])

    def test_a_changed_part_is_looked_at_as_it_is_now(self):
        keeper = keeper_of({"a": "<p q=\"{draw b}\"/>", "b": "{draw c}", "c": "{x}"})
        keeper.look("a")
        keeper.tell("c", "{each l}{y}{end}{z}")
        self.assertEqual(keeper.look("a"), ([("y", "quoted"), ("z", "quoted")], [("b", QUOTED), ("c", QUOTED)]))
        keeper.tell("c", "\"")
        self.assertEqual(refused_by(keeper.look, "a"), ("Unlike", ("seat", "draw", "c", ""), ([], 3), ([], 4)))
        keeper.tell("c", "")
        self.assertEqual(keeper.look("a"), ([], [("b", QUOTED), ("c", QUOTED)]))


class AnyBooksTest(unittest.TestCase):
    def assert_alike(self, keeper, slow, texts, name):
        """A keeper tells what a slow one does, and of a page what a new keeper of the same sheets tells."""
        told = refused_by(keeper.look, name)
        self.assertEqual(told, refused_by(slow.look, name))
        new = refused_by(keeper_of(texts).look, name)
        self.assertEqual(told[0], new[0])
        if isinstance(told[0], str):
            self.assertEqual(told, new)
            return "refused"
        return "looks" if told[1] else "no looks"

    def test_by_turns_told_and_asked(self):
        source = random.Random(76)
        seen = {}
        for texts in sound_books(60):
            keeper, slow = keeper_of(texts), SlowKeeper(texts)
            now = dict(texts)
            for turn in range(14):
                if source.randrange(3) == 0:
                    name = source.choice("abcdefg")
                    text = source.choice([texts[name]] * 5 + ["<p>{draw f}</p>{draw g}", texts["f"], "x{draw g}<p>"])
                    keeper.tell(name, text)
                    slow.tell(name, text)
                    now[name] = text
                word = self.assert_alike(keeper, slow, now, source.choice("aaabcdef"))
                seen[word] = seen.get(word, 0) + 1
        self.assertGreater(min([seen[word] for word in ["looks", "no looks", "refused"]]), 50, seen)

    def test_books_that_are_mostly_refused(self):
        for texts in loose_books(100):
            keeper, slow = keeper_of(texts), SlowKeeper(texts)
            for name in "abcdea":
                self.assert_alike(keeper, slow, texts, name)

    def test_no_part_is_looked_at_twice(self):
        for texts in sound_books(40):
            keeper = keeper_of(texts)
            told = [refused_by(keeper.look, name) for name in "abcdefgabc"]
            seen = [pair for answer in told if isinstance(answer[0], list) for pair in answer[1]]
            self.assertEqual(len(seen), len(set(seen)))
            self.assertEqual([state for part, state in seen], [floored(state) for part, state in seen])


if __name__ == "__main__":
    unittest.main()

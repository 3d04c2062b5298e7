"""Points 2, 4, 61, 62 and 65: sealpress.chains."""

import random
import re
import unittest

from sealpress.book import Book
from sealpress.chains import bodies_of, chain_of, leans_on
from sealpress.errors import RingOver, Unknown
from tests.to_try import book_of, lists_in, loose_books, refused_by


def right_chain(texts, name):
    """The chain by the texts of a book, or the refusal's name and field."""
    chain = []
    while True:
        if name in chain:
            return ("RingOver", chain[chain.index(name):])
        if name not in texts:
            return ("Unknown", name)
        chain.append(name)
        over = re.match(r"\{over ([a-z]+)\}", texts[name])
        if over is None:
            return chain
        name = over.group(1)


def right_leans(texts, name):
    """The names by the texts of a book, grown until none is new."""
    found = {name}
    while True:
        more = {other for known in found for other in re.findall(r"\{(?:over|draw) ([a-z]+)\}", texts.get(known, ""))}
        if more <= found:
            return sorted(found)
        found |= more


class ChainTest(unittest.TestCase):
    def refused(self, refusal, texts, name):
        for block in ["p", "none"]:
            self.assertRaises(refusal, bodies_of, book_of(texts), name, block)
        with self.assertRaises(refusal) as caught:
            chain_of(book_of(texts), name)
        return caught.exception

    def test_chains_of_one_sheet_and_of_many(self):
        self.assertEqual(chain_of(book_of({"a": ""}), "a"), ["a"])
        book = book_of({"c": "x", "b": "{over c}", "a": "{over b}{block p}{end}", "d": "{over c}"})
        for name, chain in [("a", ["a", "b", "c"]), ("b", ["b", "c"]), ("c", ["c"]), ("d", ["d", "c"])]:
            self.assertEqual(chain_of(book, name), chain)

    def test_a_chain_of_all_twenty_sheets(self):
        names = ["over" + letter for letter in "qwertyuiopasdfghjklz"]
        texts = {name: "{over " + other + "}" for name, other in zip(names, names[1:])}
        texts[names[-1]] = "root"
        book = book_of(texts)
        for number, name in enumerate(names):
            self.assertEqual(chain_of(book, name), names[number:])

    def test_what_is_drawn_is_in_no_chain(self):
        book = book_of({"a": "{draw b}{draw none}", "b": "{draw a}"})
        self.assertEqual(chain_of(book, "a"), ["a"])

    def test_unknown_is_the_first_name_without_a_sheet(self):
        for texts, name, missing in [({}, "a", "a"), ({"b": ""}, "a", "a"), ({"a": "{over b}"}, "a", "b"),
                                     ({"a": "{over b}", "b": "{over c}"}, "a", "c"),
                                     ({"a": "{over none}{block p}{end}"}, "a", "none")]:
            self.assertEqual(self.refused(Unknown, texts, name).name, missing)

    def test_a_ring_is_told_from_the_name_that_is_met_again_on(self):
        ring = {"a": "{over b}", "b": "{over c}", "c": "{over a}", "in": "{over b}", "far": "{over in}"}
        for texts, name, names in [
                ({"a": "{over a}"}, "a", ["a"]), ({"a": "{over a}", "b": "{over a}"}, "b", ["a"]),
                (ring, "a", ["a", "b", "c"]), (ring, "b", ["b", "c", "a"]), (ring, "c", ["c", "a", "b"]),
                (ring, "in", ["b", "c", "a"]), (ring, "far", ["b", "c", "a"])]:
            self.assertEqual(self.refused(RingOver, texts, name).ring, names)

    def test_a_sheet_told_later_mends_a_chain(self):
        book = book_of({"a": "{over b}"})
        self.assertRaises(Unknown, chain_of, book, "a")
        book.tell("b", "{over a}")
        self.assertRaises(RingOver, chain_of, book, "a")
        book.tell("b", "")
        self.assertEqual(chain_of(book, "a"), ["a", "b"])

    def test_told_lists_are_the_askers_own(self):
        book = book_of({"a": "{over b}", "b": "x"})
        told = chain_of(book, "a")
        told.append("mine")
        self.assertEqual(chain_of(book, "a"), ["a", "b"])
        ring = book_of({"a": "{over b}", "b": "{over a}"})
        refused_by(chain_of, ring, "a")[1].append("mine")
        self.assertEqual(refused_by(chain_of, ring, "a"), ("RingOver", ["a", "b"]))

    def test_any_books(self):
        seen = set()
        for texts in loose_books(300):
            book = book_of(texts)
            for name in ["a", "b", "c", "d", "e"]:
                found = refused_by(chain_of, book, name)
                self.assertEqual(found, right_chain(texts, name), (texts, name))
                seen.add(found[0] if isinstance(found, tuple) else len(found))
        self.assertLess({"Unknown", "RingOver", 1, 2, 3}, seen)


class BodiesTest(unittest.TestCase):
    def test_youngest_first_and_those_left_out_that_have_none(self):
        book = book_of({
            "a": "{over b}{block p}1{elder}{end}", "b": "{over c}{block q}x{end}", "c": "{over d}{block p}{end}",
            "d": "{block p}2{x}{end}{block q}{block r}3{end}{end}"})
        self.assertEqual(bodies_of(book, "a", "p"), [("a", [("lit", "1"), ("elder",)]), ("c", []),
                                                     ("d", [("lit", "2"), ("hole", "x")])])
        self.assertEqual(bodies_of(book, "b", "p"), [("c", []), ("d", [("lit", "2"), ("hole", "x")])])
        self.assertEqual(bodies_of(book, "a", "q"), [("b", [("lit", "x")]), ("d", [("block", "r", [("lit", "3")])])])
        self.assertEqual(bodies_of(book, "a", "r"), [("d", [("lit", "3")])])

    def test_at_whatever_depth(self):
        book = book_of({
            "a": "{over b}{block p}{each x}{if y}{else}{block q}1{end}{end}{end}{end}",
            "b": "{if x}{block p}{end}{else}{each y}{block r}{block q}{draw a}{end}{end}{end}{end}"})
        self.assertEqual(bodies_of(book, "a", "q"), [("a", [("lit", "1")]), ("b", [("draw", "a")])])
        self.assertEqual([name for name, pieces in bodies_of(book, "a", "p")], ["a", "b"])

    def test_a_block_that_no_sheet_has(self):
        book = book_of({"a": "{over b}{block p}{end}", "b": "x", "c": "{block q}{end}"})
        self.assertEqual(bodies_of(book, "a", "q"), [])
        self.assertEqual(bodies_of(book, "b", "p"), [])

    def test_what_is_drawn_brings_no_bodies(self):
        book = book_of({"a": "{draw b}", "b": "{block p}{end}"})
        self.assertEqual(bodies_of(book, "a", "p"), [])

    def test_told_lists_are_the_askers_own(self):
        book = book_of({"a": "{over b}{block p}{if x}1{end}{end}", "b": "{block p}{block q}2{end}{end}"})
        kept = [("a", [("if", "x", [("lit", "1")], [])]), ("b", [("block", "q", [("lit", "2")])])]
        told = bodies_of(book, "a", "p")
        for found in lists_in(bodies_of(book, "a", "p")):
            found.append(("lit", "mine"))
        self.assertEqual(bodies_of(book, "a", "p"), kept)
        book.tell("b", "")
        self.assertEqual(told, kept)

    def test_any_books(self):
        longest = 0
        for texts in loose_books(150):
            book = book_of(texts)
            for name, block in [(name, block) for name in "abcde" for block in "pqr"]:
                chain = right_chain(texts, name)
                right = chain
                if isinstance(chain, list):
                    blocks = [(link, book.sheet(link).blocks()) for link in chain]
                    right = [(link, found[block]) for link, found in blocks if block in found]
                    longest = max(longest, len(right))
                self.assertEqual(refused_by(bodies_of, book, name, block), right)
        self.assertGreaterEqual(longest, 3)


class LeansTest(unittest.TestCase):
    def test_over_and_draws_at_whatever_depth(self):
        book = book_of({
            "a": "{over b}{block p}{each x}{if y}{draw c}{else}{block q}{draw d}{end}{end}{end}{end}", "b": "",
            "c": "{draw e}", "d": "{over f}", "e": "", "f": "x", "g": "{draw a}"})
        self.assertEqual(leans_on(book, "a"), ["a", "b", "c", "d", "e", "f"])
        self.assertEqual(leans_on(book, "b"), ["b"])
        self.assertEqual(leans_on(book, "d"), ["d", "f"])
        self.assertEqual(leans_on(book, "g"), ["a", "b", "c", "d", "e", "f", "g"])

    def test_also_in_blocks_that_are_never_laid(self):
        book = book_of({"a": "{over b}{block p}x{end}{block none}{draw c}{end}", "b": "{block p}{draw d}{end}",
                        "c": "", "d": ""})
        self.assertEqual(leans_on(book, "a"), ["a", "b", "c", "d"])

    def test_names_without_a_sheet(self):
        self.assertEqual(leans_on(Book(), "a"), ["a"])
        self.assertEqual(leans_on(book_of({"b": "{draw c}"}), "a"), ["a"])
        self.assertEqual(leans_on(book_of({"b": "{draw c}{draw a}"}), "b"), ["a", "b", "c"])
        self.assertEqual(leans_on(book_of({"b": "{over none}"}), "b"), ["b", "none"])

    def test_rings(self):
        book = book_of({"a": "{over b}", "b": "{over a}", "c": "{draw d}", "d": "{draw c}{draw a}", "e": "{draw e}"})
        self.assertEqual(leans_on(book, "a"), ["a", "b"])
        self.assertEqual(leans_on(book, "c"), ["a", "b", "c", "d"])
        self.assertEqual(leans_on(book, "e"), ["e"])

    def test_each_name_stands_once_and_sorted(self):
        book = book_of({"m": "{draw z}{draw b}{draw z}{draw m}{draw ab}{draw a}"})
        self.assertEqual(leans_on(book, "m"), ["a", "ab", "b", "m", "z"])

    def test_told_lists_are_the_askers_own(self):
        book = book_of({"a": "{draw b}"})
        told = leans_on(book, "a")
        leans_on(book, "a").clear()
        book.tell("a", "")
        self.assertEqual((told, leans_on(book, "a")), (["a", "b"], ["a"]))

    def test_any_books(self):
        for texts in loose_books(300):
            book = book_of(texts)
            for name in ["a", "b", "c", "d", "e", "none"]:
                self.assertEqual(leans_on(book, name), right_leans(texts, name))

    def test_other_names_change_nothing(self):
        source = random.Random(65)
        for texts in loose_books(60):
            book = book_of(texts)
            for name in "abcde":
                chain, bodies = refused_by(chain_of, book, name), refused_by(bodies_of, book, name, "p")
                others = [other for other in "abcdef" if other not in leans_on(book, name)]
                changed = book.copied()
                for other in others:
                    changed.tell(other, source.choice(list(texts.values())))
                self.assertEqual(refused_by(chain_of, changed, name), chain)
                self.assertEqual(refused_by(bodies_of, changed, name, "p"), bodies)


if __name__ == "__main__":
    unittest.main()

"""Points 2, 4 and 60: sealpress.book."""

import copy
import unittest

from sealpress.book import Book
from sealpress.errors import NoName, NoSheet, NoSign, TooMany, Twice, Unknown
from sealpress.sheets import Sheet
from tests.to_try import BRACE_WORDS, NO_NAMES, lists_in

NAMES = [letter * 2 for letter in "qwertyuiopasdfghjklz"]
TEXT = "{over base}{block a}x{if y}{each z}1{end}{else}{block b}{end}{end}{end}"
PIECES = [("block", "a", [("lit", "x"), ("if", "y", [("each", "z", [("lit", "1")])], [("block", "b", [])])])]
WRONG_TEXTS = [("x" * 2001, TooMany), ("\t", NoSign), (None, NoSign), ("{", NoSheet), ("{each x}", NoSheet),
               ("{block a}{end}{block a}{end}", Twice), ("{each x}" * 13, TooMany)]


def seen(book):
    """All that a book tells."""
    return [(name, book.sheet(name).over, book.sheet(name).pieces) for name in book.names()]


def full_book():
    book = Book()
    for name in NAMES:
        book.tell(name, "sheet " + name)
    return book


class BookTest(unittest.TestCase):
    def test_a_new_book_has_no_sheets(self):
        self.assertEqual(Book().names(), [])
        with self.assertRaises(Unknown) as caught:
            Book().sheet("a")
        self.assertEqual(caught.exception.name, "a")

    def test_told_sheets(self):
        book = Book()
        self.assertIsNone(book.tell("page", TEXT))
        self.assertIsNone(book.tell("base", "a{x}"))
        self.assertIsInstance(book.sheet("page"), Sheet)
        self.assertEqual(seen(book), [("base", None, [("lit", "a"), ("hole", "x")]), ("page", "base", PIECES)])
        self.assertEqual(list(book.sheet("page").blocks()), ["a", "b"])

    def test_in_the_place_of_an_earlier_one(self):
        book = Book()
        for text, over, pieces in [("a", None, [("lit", "a")]), (TEXT, "base", PIECES), ("", None, []),
                                   ("a", None, [("lit", "a")])]:
            self.assertIsNone(book.tell("page", text))
            self.assertEqual(seen(book), [("page", over, pieces)])
        book.tell("other", "b")
        book.tell("page", "c")
        self.assertEqual(seen(book), [("other", None, [("lit", "b")]), ("page", None, [("lit", "c")])])

    def test_a_sheet_may_be_over_and_draw_what_is_not_there(self):
        book = Book()
        book.tell("a", "{over a}")
        book.tell("b", "{draw none}{draw b}")
        self.assertEqual(seen(book), [("a", "a", []), ("b", None, [("draw", "none"), ("draw", "b")])])

    def test_the_eight_words_are_names_of_sheets(self):
        book = Book()
        for word in BRACE_WORDS:
            book.tell(word, word)
        self.assertEqual(book.names(), sorted(BRACE_WORDS))

    def test_names_are_sorted_and_the_askers_own(self):
        book = full_book()
        self.assertEqual(book.names(), sorted(NAMES))
        book.names().append("mine")
        book.names().clear()
        self.assertEqual(book.names(), sorted(NAMES))
        told = book.names()
        book.tell(NAMES[0], "again")
        Book().tell("new", "")
        self.assertEqual(told, sorted(NAMES))

    def test_unknown(self):
        book = full_book()
        for name in ["aa" + "a", "z", "abcdefgh", "sheet", "mine"]:
            with self.assertRaises(Unknown) as caught:
                book.sheet(name)
            self.assertEqual(caught.exception.name, name)

    def test_two_books_have_nothing_to_do_with_one_another(self):
        one = Book()
        other = Book()
        one.tell("a", "x")
        self.assertEqual(other.names(), [])


class RefusalsTest(unittest.TestCase):
    def test_no_name_with_what_was_handed_in(self):
        for book in [Book(), full_book()]:
            kept = seen(book)
            for text in ["x"] + [text for text, refusal in WRONG_TEXTS]:
                for number, thing in enumerate(NO_NAMES):
                    with self.assertRaises(NoName) as caught:
                        book.tell(thing, text)
                    self.assertIs(caught.exception.name, thing, number)
            self.assertEqual(seen(book), kept)

    def test_what_is_refused_of_the_text(self):
        for book, name in [(Book(), "new"), (full_book(), NAMES[0])]:
            kept = seen(book)
            for text, refusal in WRONG_TEXTS:
                self.assertRaises(refusal, book.tell, name, text)
            self.assertEqual(seen(book), kept)

    def test_the_fields_of_what_is_refused_of_the_text(self):
        for text, refusal, at in [("ab\t", NoSign, 2), ("ab}", NoSheet, 2), ("{if x}", NoSheet, 6), (7, NoSign, 0)]:
            with self.assertRaises(refusal) as caught:
                Book().tell("a", text)
            self.assertEqual(caught.exception.at, at)

    def test_a_twenty_first_sheet(self):
        book = Book()
        for number, name in enumerate(NAMES):
            book.tell(name, "a")
            self.assertEqual(len(book.names()), number + 1)
        kept = seen(book)
        self.assertEqual(len(kept), 20)
        for name in ["new", "a", "abcdefgh"]:
            self.assertRaises(TooMany, book.tell, name, "x")
            self.assertRaises(Unknown, book.sheet, name)
        self.assertEqual(seen(book), kept)

    def test_a_name_that_is_there_is_never_one_too_many(self):
        book = full_book()
        for name in NAMES:
            self.assertIsNone(book.tell(name, "again " + name))
            self.assertEqual(book.sheet(name).pieces, [("lit", "again " + name)])
        self.assertEqual(book.names(), sorted(NAMES))

    def test_the_text_is_refused_ahead_of_a_twenty_first_sheet(self):
        book = full_book()
        for text, refusal in WRONG_TEXTS:
            self.assertRaises(refusal, book.tell, "new", text)
        self.assertEqual(book.names(), sorted(NAMES))


class CopiesTest(unittest.TestCase):
    def test_what_is_done_to_a_told_sheet_changes_nothing(self):
        book = Book()
        book.tell("page", TEXT)
        other = book.copied()
        for number in range(2):
            sheet = book.sheet("page")
            for found in lists_in(sheet.pieces) + lists_in(sheet.blocks())[1:]:
                found.append(("lit", "mine"))
            self.assertEqual(seen(book), [("page", "base", PIECES)])
            self.assertEqual(seen(other), [("page", "base", PIECES)])

    def test_what_is_told_later_changes_no_told_sheet(self):
        book = Book()
        book.tell("page", TEXT)
        sheet = book.sheet("page")
        book.tell("page", "b")
        self.assertEqual((sheet.over, sheet.pieces), ("base", PIECES))

    def test_a_copy_has_the_same_sheets(self):
        book = full_book()
        book.tell(NAMES[3], TEXT)
        other = book.copied()
        self.assertIsInstance(other, Book)
        self.assertEqual(seen(other), seen(book))
        self.assertEqual(Book().copied().names(), [])

    def test_what_is_told_to_the_one_is_not_told_to_the_other(self):
        book = Book()
        book.tell("a", "1")
        book.tell("b", TEXT)
        kept = copy.deepcopy(seen(book))
        other = book.copied()
        other.tell("a", "2")
        other.tell("c", "3")
        self.assertEqual(seen(book), kept)
        self.assertEqual([name for name, over, pieces in seen(other)], ["a", "b", "c"])
        changed = copy.deepcopy(seen(other))
        book.tell("b", "4")
        book.tell("d", "5")
        self.assertEqual(seen(other), changed)
        self.assertEqual(book.names(), ["a", "b", "d"])

    def test_each_copy_has_room_of_its_own(self):
        book = full_book()
        other = book.copied()
        self.assertRaises(TooMany, other.tell, "new", "x")
        some = Book()
        for name in NAMES[1:]:
            some.tell(name, "x")
        more = some.copied()
        more.tell("new", "x")
        some.tell("newer", "x")
        self.assertRaises(TooMany, more.tell, "newer", "x")


if __name__ == "__main__":
    unittest.main()

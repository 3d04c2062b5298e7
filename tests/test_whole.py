"""Points 1, 2, 4 and 5, and the interface: the whole program."""

import copy
import importlib
import inspect
import random
import unittest

from sealpress.chains import chain_of
from sealpress.desk import Desk
from sealpress.errors import SealError
from sealpress.laying import laid
from sealpress.looker import look
from sealpress.pages import shape_of
from sealpress.press import filled, pressed
from sealpress.reader import read
from tests.to_try import ALL, book_of, flat, loose_books, made_data, made_text, refused_by, sound_books

# each module's names with their arguments, and each class's methods
INTERFACE = {
    "signs": "number_of(sign) sign_of(number) figures_of(number) is_text(thing) is_name(thing) need_text(thing)",
    "marks": "marked(text,shut) unmarked(text)", "strokes": "stroked(text,shut) unstroked(text)",
    "words": "worded(text) unworded(text)", "talks": "feed(talk,sign)",
    "steps": "begin() step(state,sign) run(state,text) is_end(state) floored(state)",
    "pages": "page_of(events) is_page(thing) shape_of(page)", "reader": "read(text)", "writer": "written(page)",
    "places": "place_of(state) put(place,value)", "pieces": "copied(pieces)",
    "sheets": "Sheet(over,pieces) Sheet.blocks() sheet_read(text)", "sheettexts": "sheet_text(sheet)",
    "book": "Book() Book.tell(name,text) Book.names() Book.sheet(name) Book.copied()",
    "chains": "chain_of(book,name) bodies_of(book,name,block) leans_on(book,name)", "laying": "laid(book,name)",
    "ways": "walked(pieces,place) state_at(pieces,place)", "looker": "look(pieces)",
    "keeper": "Keeper() Keeper.tell(name,text) Keeper.names() Keeper.sheet(name) Keeper.book() Keeper.look(name)",
    "values": "value_of(scopes,name) text_of(scopes,name) truth_of(scopes,name) rows_of(scopes,name)",
    "press": "pressed(pieces,data) events_along(pieces,data) filled(pieces,data)",
    "texts": "page_text(page) pairs_text(pairs)", "desk": "Desk() Desk.say(row)",
    "errors": "NoSign(at) NoCode(at) Unread(at) NoPage(at) NoName(name) NoSheet(at) Twice(name) Unknown(name) "
              "RingOver(ring) Ringed(ring) NoElder(name) Astray(place,at) NoPlace(name,place) Unlike(what,one,other) "
              "LeftOpen(place) NoValue(name) NoKind(name)",
}


def is_pressed(pieces, data):
    """Whether pieces are pressed, and not refused."""
    return isinstance(refused_by(pressed, pieces, data)[-1], list)


def pages_pressed(many):
    """For pages of sound books: the book, the page's name, its laid pieces, and data by which it is pressed."""
    source = random.Random(many * 5)
    found = []
    for texts in sound_books(many):
        book = book_of(texts)
        for name in texts:
            pieces = refused_by(laid, book, name)
            data = made_data(source, 2)
            if isinstance(pieces, list) and is_pressed(pieces, data):
                found.append((book, name, pieces, data))
    return found


def with_other_texts(thing, change):
    """Data, or a page's rows, with each text in them that is a value's or stands for one put otherwise."""
    if isinstance(thing, dict):
        return {name: with_other_texts(thing[name], change) for name in thing}
    if isinstance(thing, (list, tuple)):
        return thing.__class__([with_other_texts(part, change) for part in thing])
    return change(thing) if isinstance(thing, str) else thing


def outside(pieces, data, blocks):
    """What is pressed outside of the seats of these blocks, sign by sign."""
    text, ledger = pressed(pieces, data)
    values = iter([text[start:stop] for start, stop, name, place in ledger])
    parts = []
    for seats, stop in flat(pieces, [data]):
        part = next(values) if stop[0] == "hole" else stop[1]
        own = [word for word, sheet, block in seats]
        # within a drawn part stand its own blocks, not those of the page
        around = seats[:own.index("draw")] if "draw" in own else seats
        if not [block for word, sheet, block in around if block in blocks]:
            parts.append(part)
    return "".join(parts)


class InterfaceTest(unittest.TestCase):
    def test_names_and_arguments(self):
        for module, names in INTERFACE.items():
            file = importlib.import_module("sealpress." + module)
            for name in names.split(" "):
                called, arguments = name[:-1].split("(")
                thing = file
                for word in called.split("."):
                    thing = getattr(thing, word)
                found = [word for word in inspect.signature(thing).parameters if word != "self"]
                self.assertEqual(found, [word for word in arguments.split(",") if word], name)

    def test_refusals_of_one_text(self):
        for word in ["Unended", "TooMany", "NoRow"]:
            refusal = getattr(importlib.import_module("sealpress.errors"), word)
            self.assertEqual(refusal.__bases__, (SealError,))
            self.assertEqual(str(refusal("so it is")), "so it is")


class PromiseTest(unittest.TestCase):
    def test_what_is_read_is_what_the_laid_pieces_tell(self):
        source = random.Random(5)
        many = 0
        for book, name, pieces, data in pages_pressed(60):
            # each value is first a sign for itself, which stands alike at all places
            values = []

            def marked_value(text):
                values.append(made_text(source, 12) + source.choice(ALL))
                return "qq" + str(len(values) - 1) + "qq"

            def unmarked_text(text):
                parts = text.split("qq")
                parts[1::2] = [values[int(part)] for part in parts[1::2]]
                return "".join(parts)

            marks = with_other_texts(data, marked_value)
            real = with_other_texts(marks, unmarked_text)
            plain = read(pressed(pieces, marks)[0])
            told = read(pressed(pieces, real)[0])
            self.assertEqual(told, with_other_texts(plain, unmarked_text))
            self.assertEqual(told, filled(pieces, real))
            self.assertEqual(shape_of(told), shape_of(plain))
            many += told != plain
        self.assertGreater(many, 150)

    def test_a_block_put_otherwise_leaves_what_stands_outside(self):
        many = 0
        for book, name, pieces, data in pages_pressed(80):
            sheet = book.sheet(name)
            elder = pieces if sheet.over is None else laid(book, sheet.over)
            if is_pressed(elder, data):
                blocks = sheet.blocks()
                self.assertEqual(outside(pieces, data, blocks), outside(elder, data, blocks))
                many += pressed(pieces, data) != pressed(elder, data)
        self.assertGreater(many, 40)

    def test_of_any_book_a_page_that_is_let_by_is_read(self):
        source = random.Random(6)
        many = 0
        for texts in loose_books(200):
            book = book_of(texts)
            for name in texts:
                pieces = refused_by(laid, book, name)
                if isinstance(pieces, list) and isinstance(refused_by(look, pieces), list):
                    value = source.choice([made_text(source, 5), True, [{"x": "<", "y": made_text(source, 5)}]])
                    data = {"x": made_text(source, 9), "y": value}
                    kept = copy.deepcopy((pieces, data))
                    if is_pressed(pieces, data):
                        self.assertEqual(read(pressed(pieces, data)[0]), filled(pieces, data))
                        many += 1
                    self.assertEqual((pieces, data), kept)
        self.assertGreater(many, 100)

    def test_each_sign_of_a_value_at_each_place_of_a_page(self):
        book = book_of({"page": "{over base}{block p}<b c:{x} d=\"{x}\"/>{elder}{end}",
                        "base": "<p>{block p}{each l}{draw part}{end}{end}</p>{if i}{x}{end}",
                        "part": "<e f(a,{x},{y}) g!\"w '{x}'\">{y}</e>"})
        pieces = laid(book, "page")
        self.assertEqual(chain_of(book, "page"), ["page", "base"])
        for sign in ALL:
            for value in [sign, sign * 3, "a" + sign, sign + "a", ALL + sign]:
                page = read(pressed(pieces, {"x": value, "y": "z", "l": [{}, {"y": value}], "i": True})[0])
                self.assertEqual(page, [
                    ("text", ""), ("box", "p", []), ("text", ""),
                    ("box", "b", [("c", "bare", value), ("d", "quoted", value)]), ("text", ""), ("out",), ("text", ""),
                    ("box", "e", [("f", "row", ["a", value, "z"]), ("g", "talk", [("word", "w"), ("said", value)])]),
                    ("text", "z"), ("out",), ("text", ""),
                    ("box", "e", [("f", "row", ["a", value, value]), ("g", "talk", [("word", "w"), ("said", value)])]),
                    ("text", value), ("out",), ("text", ""), ("out",), ("text", value)])

    def test_by_a_desk(self):
        desk = Desk()
        for row in ["sheet base <p>{block p}{end}</p>", "sheet page {over base}{block p}{draw part}{end}",
                    "sheet part <b c=\"{x}\">{x}</b>", "value x <\"&"]:
            self.assertEqual(desk.say(row), "ok")
        text = desk.say("press page")
        value = "~27~02~05"
        self.assertEqual(desk.say("read " + text).split("\n"), [
            "text .", "box p", "text .", "box b c:quoted:." + value, "text ." + value, "out", "text .", "out",
            "text ."])


if __name__ == "__main__":
    unittest.main()

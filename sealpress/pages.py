"""Pages: what one is, the page that events tell, and the shape of a page."""

from sealpress.modes import ASIS_END
from sealpress.signs import is_name, is_text
from sealpress.words import WORDSIGNS


def is_tuple_of(thing, word, length):
    """Whether a thing, whatever it is, is a tuple of this length that begins with this word."""
    # what is no text is not held against the word: it may be a thing that can't be compared
    return isinstance(thing, tuple) and len(thing) == length and isinstance(thing[0], str) and thing[0] == word


def is_word(thing):
    """Whether a thing, whatever it is, is a text of one word sign or more."""
    return isinstance(thing, str) and len(thing) > 0 and all([sign in WORDSIGNS for sign in thing])


def is_talked(thing):
    """Whether a thing, whatever it is, is a word or a said text of a talk."""
    if is_tuple_of(thing, "word", 2):
        return is_word(thing[1])
    return is_tuple_of(thing, "said", 2) and is_text(thing[1])


def is_content(kind, thing):
    """Whether a thing, whatever it is, is the content of an attr of this kind, a text."""
    if kind in ("bare", "quoted"):
        return is_text(thing)
    if kind == "row":
        return isinstance(thing, list) and len(thing) > 0 and all([is_text(item) for item in thing])
    return kind == "talk" and isinstance(thing, list) and all([is_talked(part) for part in thing])


def is_attr(thing):
    """Whether a thing, whatever it is, is something that a box is told with."""
    if not isinstance(thing, tuple) or len(thing) != 3:
        return False
    return is_name(thing[0]) and isinstance(thing[1], str) and is_content(thing[1], thing[2])


def is_box_row(thing):
    """Whether a thing, whatever it is, is a row that begins a box."""
    if not is_tuple_of(thing, "box", 3) or not is_name(thing[1]):
        return False
    return isinstance(thing[2], list) and all([is_attr(attr) for attr in thing[2]])


def is_text_row(thing, inmost):
    """Whether a thing, whatever it is, is a text row that can stand in a box of the name inmost."""
    if not is_tuple_of(thing, "text", 2) or not is_text(thing[1]):
        return False
    return inmost != "asis" or ASIS_END not in thing[1]


def first_fault(thing):
    """The number of the first row that can't stand, or of all rows where the end isn't there; None of a page."""
    if not isinstance(thing, list):
        return 0
    opens = []
    for at, row in enumerate(thing):
        inmost = opens[-1] if opens else ""
        if at % 2 == 0:
            if not is_text_row(row, inmost):
                return at
        elif is_box_row(row) and inmost != "asis":
            opens.append(row[1])
        elif is_tuple_of(row, "out", 1) and opens:
            opens.pop()
        else:
            return at
    return len(thing) if opens or len(thing) % 2 == 0 else None


def is_page(thing):
    """Whether a thing, whatever it is, is a page."""
    return first_fault(thing) is None


def with_texts(events):
    """Each event that is no sign, in a tuple with the text of the signs behind it."""
    # the page itself begins as one in a box does
    parts = [(("in",), [])]
    for event in events:
        if event[0] == "sign":
            parts[-1][1].append(event[1])
        else:
            parts.append((event, []))
    return [(event, "".join(signs)) for event, signs in parts]


def begun_content(kind, text):
    """The content of an attr that has just begun, text being the signs told so far."""
    if kind == "row":
        return [text]
    return [] if kind == "talk" else text


def page_of(events):
    """The page of the events of a text that is read from its beginning to its end."""
    rows = []
    for event, text in with_texts(events):
        word = event[0]
        if word == "box":
            rows.append(("box", event[1], []))
        elif word == "attr":
            rows[-1][2].append((event[1], event[2], begun_content(event[2], text)))
        elif word == "next":
            rows[-1][2][-1][2].append(text)
        elif word in ("word", "said"):
            rows[-1][2][-1][2].append((word, text))
        else:
            if word == "out":
                rows.append(event)
            rows.append(("text", text))
    return rows


def content_shape(kind, content):
    """What an attr is told with, without the signs of its texts, but for the words of a talk."""
    if kind == "row":
        return ["" for item in content]
    if kind == "talk":
        return [part if part[0] == "word" else ("said", "") for part in content]
    return ""


def row_shape(row):
    """A row of a page without the signs of its texts."""
    if row[0] == "text":
        return ("text", "")
    if row[0] == "box":
        return ("box", row[1], [(name, kind, content_shape(kind, content)) for name, kind, content in row[2]])
    return row


def shape_of(page):
    """The shape of a page: its rows, all texts in them without signs."""
    return [row_shape(row) for row in page]

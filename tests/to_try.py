"""What several tests try: texts, the reader's states, pages, sheets, books, laid pieces."""

import copy
import random

from sealpress.book import Book
from sealpress.errors import SealError
from sealpress.places import place_of
from sealpress.steps import begin, is_end, run, step
from sealpress.ways import state_at

ALL = "".join([chr(number) for number in range(32, 127) if number != 37])
PLAIN = "abcdefghijklmnopqrstuvwxyz0123456789-"
SIGNS_OF_BOXES = "<>/ab asis:=!(\"',)\\~&;0123456789"
# texts that may be read from the beginning to the end
WHOLE = [
    "", "x", "a > b", "&27;", "<a/>", "<a></a>", "<a><a/></a>", "<a>x<b>y</b>z</a>w", "<asis><a></asis>",
    "<a b:c/>", "<a b:/>", "<a b: c:~00></a>", "<a b(x,\\),)/>", "<a b()/>", "<a b=\"\" c=\"&02;\">t</a>",
    "<a b!\"\"/>", "<a b!\"w 'said \\' &02;' w&06;x&06;\"/>", "<abcdefgh abcdefgh:x>&00;</abcdefgh>",
    "<asis/>", "<asis b:c></</asis>", "<a><asis></a></asis></a>",
]
BRACE_WORDS = ["each", "if", "else", "end", "block", "elder", "draw", "over"]
# things that are of no kind which is asked for
OTHERS = [None, True, False, 0, 1, -1, 10 ** 30, "", "a", "text", (), ("text", ""), {}, {0: ("text", "")}, {"a": []}]


class Unequal:
    """A thing that can be neither held against another one nor shown."""

    def __eq__(self, other):
        raise RuntimeError("not to be compared")

    def __repr__(self):
        raise RuntimeError("not to be shown")


NO_NAMES = [None, True, 1, 0, [], ["a"], {}, {"a": "b"}, (), ("a",), "", " ", "A", "aB", "a b", " a", "a ", "a1", "1",
            "-", "a-b", "a_b", "abcdefghi", "a" * 3000, "a\n", "\t", "{", Unequal()]


def made_texts(many, longest):
    """Some texts of all signs, the same ones at each run."""
    source = random.Random(many * 10007 + longest)
    texts = []
    for number in range(many):
        # few unlike signs in a text, so that those that matter come side by side
        signs = source.choice([ALL, "&;0123456789", "\\,)'a", "~0123456789az-", "<>&\\~\""])
        texts.append("".join([source.choice(signs) for place in range(source.randrange(longest + 1))]))
    return texts


def long_texts():
    """Texts of some 2000 signs."""
    ones = [sign * 2000 for sign in "&\\~;0a <"]
    return ones + [(ALL * 22)[:2000], "&05;" * 500, "~00" * 666, "\\\\" * 1000] + made_texts(5, 2000)


def short_texts(signs, longest):
    """All texts of these signs, up to this length."""
    texts = [""]
    last = [""]
    for length in range(longest):
        last = [text + sign for text in last for sign in signs]
        texts.extend(last)
    return texts


def walk(source, state, length):
    """A text that can be run through from a state."""
    text = ""
    for place in range(length):
        signs = [sign for sign in source.choice([ALL, SIGNS_OF_BOXES, SIGNS_OF_BOXES])
                 if step(state, sign) is not None]
        if not signs:
            break
        text += source.choice(signs)
        state = step(state, text[-1])[0]
    return text


def some_states():
    """States of all modes, such as texts come to."""
    source = random.Random(7)
    states = {run(begin(), text[:cut])[0]: True for text in WHOLE for cut in range(len(text) + 1)}
    for number in range(40):
        for ahead in ["", "<a><b c=", "<a b=\"", "<a b(", "<asis>", "<b><asis></as", "<a b!\"'\\", "<a b!\"'\\&"]:
            state = run(begin(), ahead)[0]
            states[state] = True
            for sign in walk(source, state, 25):
                state = step(state, sign)[0]
                states[state] = True
    return list(states)


def made_text(source, longest):
    """One text of signs that matter."""
    signs = source.choice([ALL, "&;0123456789", "\\,)'a", "~0123456789az-", "<>&\\~\"", "</asi>", "'\"\\& "])
    return "".join([source.choice(signs) for place in range(source.randrange(longest + 1))])


def made_name(source):
    return source.choice(["a", "b", "asis", "text", "box", "out", "word", "abcdefgh", "z"])


def made_content(source, kind):
    """The content of an attr of a kind."""
    if kind == "row":
        return [made_text(source, 6) for item in range(source.randrange(1, 5))]
    if kind == "talk":
        words = "".join([source.choice(PLAIN) for sign in range(source.randrange(1, 5))])
        return [source.choice([("word", words), ("said", made_text(source, 6))])
                for part in range(source.randrange(5))]
    return made_text(source, 8)


def made_attrs(source):
    kinds = [source.choice(["bare", "quoted", "row", "talk"]) for attr in range(source.randrange(4))]
    return [(made_name(source), kind, made_content(source, kind)) for kind in kinds]


def made_page(source, depth):
    """A page, the same one for the same source."""
    rows = [("text", made_text(source, 8))]
    for box in range(source.randrange(4) if depth else 0):
        name = made_name(source)
        inner = made_page(source, depth - 1)
        if name == "asis":
            inner = [("text", made_text(source, 12).replace("</asis>", ""))]
        # what is left when an end of asis goes may be one itself
        if not (name == "asis" and "</asis>" in inner[0][1]):
            rows += [("box", name, made_attrs(source))] + inner + [("out",), ("text", made_text(source, 8))]
    return rows


def made_pages(many):
    source = random.Random(many)
    return [made_page(source, 3) for number in range(many)]


def lists_in(thing):
    """Each list and dict in a thing of lists, tuples and dicts, at whatever depth, the thing itself among them."""
    found = [thing] if isinstance(thing, (list, dict)) else []
    inner = thing.values() if isinstance(thing, dict) else thing
    for part in inner if isinstance(thing, (list, tuple, dict)) else []:
        found += lists_in(part)
    return found


def boxed(attrs):
    """A page of one box that is told with attrs."""
    return [("text", ""), ("box", "a", attrs), ("text", ""), ("out",), ("text", "")]


def good_pages():
    """Pages by hand: those that a point speaks of."""
    text, out, asis = ("text", ""), ("out",), ("box", "asis", [])
    pages = [
        [text], [("text", "x < & y")], boxed([]), boxed([]) + boxed([])[1:],
        [text, ("box", "a", []), text, ("box", "b", []), text, out, text, ("box", "a", []), text, out, text, out, text],
        [text, asis, text, out, text], [text, asis, ("text", "<b></b>&00;"), out, text],
        [text, asis, ("text", "</asis"), out, ("text", "</asis>")], [text, asis, ("text", "</ASIS><asis>"), out, text],
        [text, ("box", "a", []), ("text", "</asis>"), asis, ("text", "</asi</asi"), out, ("text", "</asis>"), out,
         text],
        boxed([("asis", "quoted", "</asis>")]),
        [text, ("box", "asis", [("b", "quoted", "</asis>"), ("c", "talk", [("said", "</asis>")])]), text, out, text],
        boxed([("b", "bare", "")]), boxed([("b", "quoted", "")]), boxed([("b", "row", [""])]),
        boxed([("b", "talk", [])]),
        boxed([("b", "row", ["", "", ""])]), boxed([("b", "row", ["a,b", ")", "\\"])]),
        boxed([("b", "talk", [("said", ""), ("said", ""), ("word", "-"), ("word", "a0"), ("said", "'"),
                              ("word", "z")])]),
        boxed([("b", "bare", "x"), ("b", "bare", "x"), ("b", "row", ["x"]), ("b", "talk", []), ("b", "quoted", ALL)]),
        [text, ("box", "abcdefgh", [("abcdefgh", "bare", ALL)]), ("text", ALL), out, ("text", ALL)],
        [("text", ALL * 50)], boxed([("b", kind, ALL * 50) for kind in ["bare", "quoted"]]),
        boxed([("b", "row", [ALL * 30] * 3), ("c", "talk", [("word", PLAIN * 90), ("said", ALL * 30)])]),
        [text, asis, ("text", ALL * 50), out, text],
    ]
    deep = [text]
    for depth in range(300):
        deep = [text, ("box", "a", [])] + deep + [out, text]
    return pages + [deep]


def wrong_attrs():
    """What can't be the attrs of a box, each by itself; the second one of two is wrong in the last ones."""
    good = ("b", "bare", "x")
    contents = {
        "bare": [None, 1, True, [], ["x"], ("x",), {}, "\t", "a%", "a\nb", Unequal()],
        "quoted": [None, 1, True, [], ["x"], ("x",), {}, "\n", "a%", Unequal()],
        "row": [None, 1, True, "", "x", (), ("x",), {}, [], [None], ["x", 1], ["x", "\t"], ["%"], [["x"]], {"x": "y"}],
        "talk": [None, 1, True, "", "x", (), {}, ["x"], [()], [("word",)], [("word", "")], [("word", "A")],
                 [("word", "a b")], [("word", "~00")], [("word", "a", "b")], [("word", None)], [("word", ["a"])],
                 [["word", "a"]], [("said",)], [("said", None)], [("said", "%")], [("said", "x", "y")], [("says", "x")],
                 [("said", "x"), ("word", "\t")], [("word", "a"), None], [(None, "a")], [(Unequal(), "a")],
                 [("", "a")], (("word", "a"),), [("word", Unequal())]],
    }
    wrong = [[(name, "bare", "x")] for name in NO_NAMES]
    wrong += [[("b", kind, content)] for kind in contents for content in contents[kind]]
    wrong += [[("b", kind, "x")]
              for kind in [None, True, 0, "", "Bare", "bare ", "said", "word", "text", [], Unequal()]]
    wrong += [[("b", kind, [])] for kind in ["", "rows", "words", None, Unequal()]]
    wrong += [[thing] for thing in [None, True, 1, "", "abc", [], ["b", "bare", "x"], {}, (), ("b",), ("b", "bare"),
                                    ("b", "bare", "x", "y"), Unequal()]]
    return wrong + [[good] + attrs for attrs in wrong]


def wrong_pages():
    """What is no page, each in a tuple with the number that is told of it."""
    text, out, box, asis = ("text", ""), ("out",), ("box", "a", []), ("box", "asis", [])
    whole = [text, box, text, out, text]
    wrong = [(thing, 0) for thing in OTHERS + [Unequal(), tuple(whole), (text,), "text", {"text": ""}]]
    wrong += [([], 0), (whole[:2], 2), (whole[:3], 3), (whole[:4], 4), (whole + [box], 6), (whole + [box, text], 7),
              ([text, box, text, box, text, out, text], 7), ([text, asis], 2), ([text, asis, text], 3)]
    for row in [text, ("text", "x"), None, True, 1, "", "out", [], ["out"], ["box", "a", []], {}, (), ("out", ""),
                ("Out",), (None,), (True,), ("box",), ("box", "a"), ("box", "a", [], []), ("in",),
                ("Box", "a", []), (Unequal(),), Unequal(), (["out"],), ("boxes", "a", [])]:
        wrong += [([text, row], 1), ([text, row, text], 1), ([text, box, text, row, text, out, text], 3)]
    for row in [box, out, None, False, 0, "", "text", [], ["text", ""], {}, (), ("text",), ("text", "", ""),
                ("Text", ""), ("text", None), ("text", True), ("text", 1), ("text", []), ("text", ["x"]),
                ("text", ("x",)), ("text", "\t"), ("text", "a" * 3000 + "%"), ("text", "\n"), (None, ""),
                (Unequal(), ""), Unequal(), ("text", Unequal())]:
        wrong += [([row], 0), ([row] + whole[1:], 0), (whole[:2] + [row] + whole[3:], 2), (whole[:4] + [row], 4)]
    wrong += [([text, out], 1), ([text, out, text], 1), (whole + [out, text], 5), (whole + [out], 5)]
    wrong += [([text, ("box", name, []), text, out, text], 1) for name in NO_NAMES]
    wrong += [(boxed(attrs), 1) for attrs in [None, True, 0, "", "abc", (), (("b", "bare", "x"),), {}] + wrong_attrs()]
    wrong += [(boxed([])[:-1] + boxed(attrs), 5) for attrs in wrong_attrs()[::7]]
    wrong += [([text, asis] + whole + [out, text], 3), ([text, asis, text, asis, text, out, text, out, text], 3),
              ([text, box, text, asis, text, box, text, out, text, out, text, out, text], 5)]
    for end in ["</asis>", "x</asis>y", "</asi</asis>", "</asis></asis>", ALL + "</asis>" + ALL]:
        wrong += [([text, asis, ("text", end), out, text], 2), ([text, asis, ("text", end)], 2),
                  ([text, box, text, asis, ("text", end), out, text, out, text], 4)]
    # of several faults the first one by its row is told
    wrong += [([text, box, ("text", "%"), out, None], 2), ([None, None], 0), ([text, text, None, None], 1)]
    return wrong


def made_piece(source, depth, is_over, names):
    """A piece within a block, where a sheet lies over another one; names are those that no block has yet."""
    word = source.choice(["lit", "lit", "hole", "elder", "draw", "each", "if", "block"])
    name = source.choice(["a", "lit", "hole", "abcdefgh", "x"])
    if word == "draw":
        return ("draw", source.choice(["a", "sheet"] + BRACE_WORDS))
    if word == "elder" and is_over:
        return ("elder",)
    if depth and word == "block" and names:
        return ("block", names.pop(), made_pieces(source, depth - 1, is_over, names))
    if depth and word == "each":
        return ("each", name, made_pieces(source, depth - 1, is_over, names))
    if depth and word == "if":
        first = made_pieces(source, depth - 1, is_over, names)
        return ("if", name, first, made_pieces(source, depth - 1, is_over, names))
    return ("hole", name) if word == "hole" else ("lit", made_text(source, 5) + source.choice("{}a <"))


def made_pieces(source, depth, is_over, names):
    """Pieces as they stand within a block, no two literals side by side."""
    pieces = []
    for number in range(source.randrange(5)):
        piece = made_piece(source, depth, is_over, names)
        if not (piece[0] == "lit" and pieces and pieces[-1][0] == "lit"):
            pieces.append(piece)
    return pieces


def made_sheets(many):
    """Tuples of over and pieces such as texts of at most 2000 signs tell."""
    source = random.Random(many * 31)
    sheets = []
    while len(sheets) < many:
        names = ["b", "block", "end", "elder", "over", "abcdefgh", "top"]
        over = source.choice([None, "base", "over"])
        if over is None:
            pieces = made_pieces(source, 4, False, names)
        else:
            blocks = range(source.randrange(4))
            pieces = [("block", names.pop(), made_pieces(source, 4, True, names)) for block in blocks if names]
        if len(told_by(over, pieces)) <= 2000:
            sheets.append((over, pieces))
    return sheets


def told_by(over, pieces, each_else=False):
    """The text of a sheet, without an else that has nothing behind it, or with an else in each choice."""
    text = "" if over is None else "{over " + over + "}"
    for word, *rest in pieces:
        if word == "lit":
            text += rest[0].replace("{", "\n").replace("}", "{)}").replace("\n", "{(}")
        elif word == "hole":
            text += "{" + rest[0] + "}"
        else:
            text += "{" + " ".join([word] + rest[:1]) + "}"
        if word in ("each", "if", "block"):
            text += told_by(None, rest[1], each_else)
            if word == "if" and (rest[2] or each_else):
                text += "{else}" + told_by(None, rest[2], each_else)
            text += "{end}"
    return text


def refused_by(asked, *things):
    """What is told where this is asked of these things; or a tuple of the refusal's name and its fields."""
    try:
        return asked(*things)
    except SealError as refusal:
        return (refusal.__class__.__name__,) + tuple(vars(refusal).values())


def book_of(texts):
    """A book of a dict of texts."""
    book = Book()
    for name, text in texts.items():
        book.tell(name, text)
    return book


def loose_text(source, number, depth, blocks, is_over):
    """What stands within a sheet, or a block of it; mostly later names are drawn, so that not all is in rings."""
    text = ""
    for part in range(source.randrange(4)):
        word = source.choice(["lit", "hole", "draw", "elder", "elder", "block", "block", "each", "if"])
        if word == "draw":
            text += "{draw " + source.choice("abcde"[number + 1:] * 6 + "abcdef") + "}"
        elif word == "elder" and is_over:
            text += "{elder}"
        elif word == "block" and depth and blocks:
            text += "{block " + blocks.pop() + "}" + loose_text(source, number, depth - 1, blocks, is_over) + "{end}"
        elif word in ("each", "if") and depth:
            text += "{" + word + " y}" + loose_text(source, number, depth - 1, blocks, is_over)
            if word == "if":
                text += "{else}" + loose_text(source, number, depth - 1, blocks, is_over)
            text += "{end}"
        else:
            text += source.choice(["{x}", "{y}", "1", "22", "<a/>"])
    return text


def loose_books(many):
    """Dicts of texts of a few sheets, named a to e: in rings or not, some not there, with blocks p, q and r."""
    source = random.Random(many * 17)
    books = []
    for book in range(many):
        texts = {}
        for number, name in enumerate("abcde"):
            blocks = source.sample("pqr", 3)
            if source.randrange(5) and name < "e" or not source.randrange(9):
                over = source.choice("abcdef"[number + 1:-1] * 6 + "abcdef")
                # a sheet over another one has blocks alone
                text = "{over " + over + "}"
                while blocks and source.randrange(4):
                    text += "{block " + blocks.pop() + "}" + loose_text(source, number, 2, blocks, True) + "{end}"
            else:
                text = loose_text(source, number, 3, blocks, False)
            if source.randrange(12):
                texts[name] = text
        books.append(texts)
    return books


# for each place: literals that leave the state as it is, and what leads from the place text to it and back
NEUTRAL = {"text": ["x", "&27;", "<a/>", "<a b(,)>y</a>", "<asis><a></asis>"], "quoted": ["x", "&02;", "<>"],
           "bare": ["x", "~00", "-0"], "row": ["x", ",", "\\)"], "said": ["x", "\\'", "&02;"]}
AROUND = {"text": [("<a>", "</a>"), ("<b c:d>", "</b>")], "quoted": [("<a b=\"", "\"/>"), ("<a c:d e=\"", "\">y</a>")],
          "bare": [("<a b:", ">z</a>"), ("<a b:x", "/>")], "row": [("<a b(", ")></a>"), ("<a b(,,", ") c:d/>")],
          "said": [("<a b!\"'", "'\"/>"), ("<a b!\"w '", "' 'x' w\"></a>")]}
# both branches come to one state, which isn't the one that they begin at
BRANCHES = [("<a ", "b:x", "c:", "/>"), ("<a", " b(", " c(,", ")>x</a>"), ("<", "asis", "asis", ">y</asis>"),
            ("", "<b>x", "<b><a/>", "</b>"), ("<a b!\"", "w 'x", "'", "'\"/>"),
            ("<a b=\"", "&02;\"", "\"", ">&00;</a>")]


def made_let_by(source, place, depth):
    """Laid pieces that lead from a place back to it, and the holes in them with their places, in order."""
    pieces, holes = [], []
    for number in range(source.randrange(1, 5)):
        word = source.choice(["lit", "hole", "hole", "around", "around", "branches", "each", "if", "seat"])
        name = source.choice({"each": "lm", "if": "ij", "branches": "ij"}.get(word, "xyz"))
        inner = made_let_by(source, place, depth - 1) if depth else ([], [])
        if word == "hole":
            pieces.append(("hole", name))
            holes.append((name, place))
        elif word == "around" and place == "text" and depth:
            within = source.choice(list(AROUND))
            begin_text, end_text = source.choice(AROUND[within])
            inner = made_let_by(source, within, depth - 1)
            pieces += [("lit", begin_text)] + inner[0] + [("lit", end_text)]
            holes += inner[1]
        elif word == "branches" and place == "text":
            ahead, one, other, behind = source.choice(BRANCHES)
            pieces += [("lit", ahead)] if ahead else []
            pieces += [("if", name, [("lit", one)], [("lit", other)]), ("lit", behind)]
        elif word == "each" and depth:
            pieces.append(("each", name, inner[0]))
            holes += inner[1]
        elif word == "if" and depth:
            second = source.choice([([], []), made_let_by(source, place, depth - 1)])
            pieces.append(("if", name, inner[0], second[0]))
            holes += inner[1] + second[1]
        elif word == "seat" and depth:
            seat = source.choice([("block", "s", "p"), ("elder", "t", "q"), ("draw", "u", ""), ("draw", "v", "")])
            pieces.append(("seat",) + seat + (inner[0],))
            holes += inner[1]
        else:
            pieces.append(("lit", source.choice(NEUTRAL[place])))
    return (pieces, holes)


def let_by(many):
    """Tuples of laid pieces that are let by and of what looking tells of them."""
    source = random.Random(many * 41)
    return [made_let_by(source, "text", 3) for number in range(many)]


def with_fault(source, pieces):
    """The same pieces with one thing put otherwise somewhere, so that mostly they are no longer let by."""
    own = copy.deepcopy(pieces)
    found = source.choice([found for found in lists_in(own) if found or source.randrange(3)] or [own])
    at = source.randrange(len(found) + 1)
    word = source.choice(["gone", "lit", "hole", "less", "more", "seat", "each", "if"])
    if at == len(found) or word in ("lit", "hole"):
        odd = source.choice(["<", ">", "</a>", "<a>", "\"", "'", "&", "<a b=\"", "\\", "~", ")", "<asis>", "<b>", "/>"])
        found.insert(at, ("hole", "z") if word == "hole" else ("lit", odd))
    elif word == "gone":
        found.pop(at)
    elif found[at][0] == "lit" and word in ("less", "more"):
        text = found[at][1]
        cut = source.randrange(len(text))
        found[at] = ("lit", text[:cut] + text[cut + (word == "less"):] + source.choice(["", "", "<", "x"]) or "x")
    else:
        # what leads to another state and back is mostly put asunder by this
        stop = source.randrange(at, len(found)) + 1
        part = found[at:stop]
        around = {"each": ("each", "z", part), "if": ("if", "z", part, [])}
        found[at:stop] = [around.get(word, ("seat", "draw", "w", "", part))]
    return own


def with_faults(many):
    """Laid pieces of which most are refused."""
    source = random.Random(many * 43)
    return [with_fault(source, made_let_by(source, "text", source.randrange(1, 4))[0]) for number in range(many)]


def passed(pieces):
    """The turns and the number of things on the way by all eaches, through first branches."""
    turns, many = [], 0
    for piece in pieces:
        inner = {"if": piece[2:3], "seat": piece[4:]}.get(piece[0], ())
        turns += [0] if piece[0] in ("each", "if") else []
        many += {"lit": 1, "hole": 1, "seat": 2}.get(piece[0], 0)
        for part in inner:
            more = passed(part)
            turns, many = turns + more[0], many + more[1]
    return (turns, many)


def place_by(pieces, path):
    """The place ahead of the piece to which a path of numbers leads: by turns of a piece and of a list in it."""
    turns, many = passed(pieces[:path[0]])
    if len(path) == 1:
        return (turns, many)
    piece = pieces[path[0]]
    turns += {"each": [1], "if": [path[1] - 2], "seat": []}[piece[0]]
    inner = place_by(piece[path[1]], path[2:])
    return (turns + inner[0], many + (piece[0] == "seat") + inner[1])


def checks(pieces, path):
    """Each piece with its path, in the order in which it is due to be refused."""
    for number, piece in enumerate(pieces):
        for at, part in enumerate(piece):
            if isinstance(part, list):
                yield from checks(part, path + [number, at])
        yield (piece, path + [number])


def fault_at(pieces, piece, path):
    """What is refused of a piece, each place found anew by the path to it: the refusal's name and fields; or None."""
    place = place_by(pieces, path)
    ends = [place_by(pieces, path + [at, len(part)]) for at, part in enumerate(piece) if isinstance(part, list)]
    state = state_at(pieces, place)
    if piece[0] == "lit":
        answer = refused_by(run, state, piece[1])
        return ("Astray", place, answer[1]) if answer[0] == "Unread" else None
    if piece[0] == "hole":
        return ("NoPlace", piece[1], place) if place_of(state) is None else None
    if piece[0] == "each":
        ends.insert(0, (place[0] + [0], place[1]))
    elif piece[0] == "seat":
        ends.insert(0, (place[0], place[1] + 1))
    if state_at(pieces, ends[0]) == state_at(pieces, ends[1]):
        return None
    return ("Unlike", piece[:4] if piece[0] == "seat" else piece[:2], ends[0], ends[1])


def right_look(pieces):
    """What is told of the pieces, or the refusal's name and fields."""
    holes = []
    for piece, path in checks(pieces, []):
        fault = fault_at(pieces, piece, path)
        if fault is not None:
            return fault
        if piece[0] == "hole":
            holes.append((piece[1], place_of(state_at(pieces, place_by(pieces, path)))))
    if not is_end(state_at(pieces, passed(pieces))):
        return ("LeftOpen", passed(pieces))
    return holes


def sound_text(source, place, depth, parts, blocks, elder):
    """A part of a sheet that leads from a place back to it; at the place any it does so wherever it stands.

    parts are the names that may be drawn, by whether they may stand anywhere; blocks the names that are left,
    by the same; elder what stands for one, or nothing.
    """
    text = ""
    for number in range(source.randrange(1, 5)):
        word = source.choice("lit hole around around draw draw block block each if elder".split(" "))
        kind = "any" if place != "text" or not source.randrange(4) else "text"
        if word == "draw" and parts[kind]:
            text += "{draw " + source.choice(parts[kind]) + "}"
        elif word == "elder":
            text += elder
        elif word == "around" and place == "text" and depth:
            within = source.choice(list(AROUND))
            first, last = source.choice(AROUND[within])
            text += first + sound_text(source, within, depth - 1, parts, blocks, "") + last
        elif word == "block" and depth and blocks[kind]:
            text += "{block " + blocks[kind].pop() + "}"
            text += sound_text(source, kind, depth - 1, parts, blocks, "") + "{end}"
        elif word == "each" and depth:
            text += "{each " + source.choice("lm") + "}"
            text += sound_text(source, place, depth - 1, parts, blocks, elder) + "{end}"
        elif word == "if" and depth:
            first, last = [sound_text(source, place, depth - 1, parts, blocks, elder) for branch in "12"]
            text += "{if " + source.choice("ij") + "}" + first + source.choice(["", "{else}" + last]) + "{end}"
        elif word == "hole":
            text += "{" + source.choice("xyz") + "}"
        else:
            text += source.choice(NEUTRAL.get(place, ["x", "y", "0"]))
    return text


def sound_book(source):
    """A dict of texts of sheets that are mostly let by: a over b over c, parts d over e, and f, g for any place."""
    parts = {name: {"text": list(boxed_parts), "any": list(plain)} for name, boxed_parts, plain in
             [("a", "de", "fg"), ("b", "de", "fg"), ("c", "de", "fg"), ("d", "f", "fg"), ("e", "f", "fg"),
              ("f", "g", "g"), ("g", "", "")]}
    texts = {"c": sound_text(source, "text", 3, parts["c"], {"text": ["p", "q"], "any": ["r", "s"]}, ""),
             "e": sound_text(source, "text", 2, parts["e"], {"text": ["p"], "any": ["r"]}, ""),
             "f": sound_text(source, "any", 2, parts["f"], {"text": [], "any": ["r"]}, ""),
             "g": sound_text(source, "any", 2, parts["g"], {"text": [], "any": ["s"]}, "")}
    for name, over, blocks in [("a", "b", "pqrs"), ("b", "c", "pqrs"), ("d", "e", "pr")]:
        texts[name] = "{over " + over + "}"
        have = book_of(texts).sheet({"a": "c", "b": "c", "d": "e"}[name]).blocks()
        # blocks that the root doesn't have may bring elders that have nothing behind
        for block in [block for block in blocks if block in have and source.randrange(3)]:
            kind = "text" if block in "pq" else "any"
            inner = sound_text(source, kind, 1, parts[name], {"text": [], "any": []}, "{elder}")
            texts[name] += "{block " + block + "}" + inner + "{end}"
    return texts


def sound_books(many):
    source = random.Random(many * 47)
    return [sound_book(source) for number in range(many)]


def made_data(source, depth, is_row=False):
    """Data, or a row, in which all names have values, or some."""
    names = [name for name in "xyzijlm" if not is_row or not source.randrange(3)]
    data = {name: made_text(source, 8) for name in names if name in "xyz"}
    data.update({name: source.choice([True, False]) for name in names if name in "ij"})
    for name in [name for name in names if name in "lm" and (depth or not is_row)]:
        many = source.choice([0, 1, 1, 2, 3]) if depth else 0
        data[name] = [made_data(source, depth - 1, True) for row in range(many)]
    return data


def flat(pieces, scopes, seats=()):
    """What the way of data comes to: tuples of the seats around, and ("lit", text) or ("hole", name, value)."""
    for piece in pieces:
        values = [scope[piece[1]] for scope in scopes if piece[1] in scope]
        if piece[0] == "lit":
            yield (seats, piece)
        elif piece[0] == "hole":
            yield (seats, piece + (values[-1],))
        elif piece[0] == "each":
            for row in values[-1]:
                yield from flat(piece[2], scopes + [row], seats)
        elif piece[0] == "if":
            yield from flat(piece[2 if values[-1] else 3], scopes, seats)
        else:
            yield from flat(piece[4], scopes, seats + (piece[1:4],))

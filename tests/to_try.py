"""What several tests try: texts, the reader's states, pages, sheets."""

import random

from sealpress.steps import begin, run, step

ALL = "".join([chr(number) for number in range(32, 127) if number != 37])
PLAIN = "abcdefghijklmnopqrstuvwxyz0123456789-"
SIGNS_OF_BOXES = "<>/ab asis:=!(\"',)\\~&;0123456789"
# texts that may be read from the beginning to the end
WHOLE = [
    "", "x", "a > b", "&27;", "<a/>", "<a></a>", "<a><a/></a>", "<a>x<b>y</b>z</a>w", "<asis><a></asis>",
    "<a b:c/>", "<a b:/>", "<a b: c:~00></a>", "<a b(x,\\),)/>", "<a b()/>", "<a b=\"\" c=\"&02;\">t</a>",
    "<a b!\"\"/>", "<a b!\"w 'said \\' &02;' w&06;x&06;\"/>", "<abcdefgh abcdefgh:x>&00;</abcdefgh>",
    "<asis/>", "<asis b:c></</asis>", "<a><asis></a></asis></a>",
]
BRACE_WORDS = ["each", "if", "else", "end", "block", "elder", "draw", "over"]
# things that are of no kind which is asked for
OTHERS = [None, True, False, 0, 1, -1, 10 ** 30, "", "a", "text", (), ("text", ""), {}, {0: ("text", "")}, {"a": []}]


class Unequal:
    """A thing that can be neither held against another one nor shown."""

    def __eq__(self, other):
        raise RuntimeError("not to be compared")

    def __repr__(self):
        raise RuntimeError("not to be shown")


NO_NAMES = [None, True, 1, 0, [], ["a"], {}, {"a": "b"}, (), ("a",), "", " ", "A", "aB", "a b", " a", "a ", "a1", "1",
            "-", "a-b", "a_b", "abcdefghi", "a" * 3000, "a\n", "\t", "{", Unequal()]


def made_texts(many, longest):
    """Some texts of all signs, the same ones at each run."""
    source = random.Random(many * 10007 + longest)
    texts = []
    for number in range(many):
        # few unlike signs in a text, so that those that matter come side by side
        signs = source.choice([ALL, "&;0123456789", "\\,)'a", "~0123456789az-", "<>&\\~\""])
        texts.append("".join([source.choice(signs) for place in range(source.randrange(longest + 1))]))
    return texts


def long_texts():
    """Texts of some 2000 signs."""
    ones = [sign * 2000 for sign in "&\\~;0a <"]
    return ones + [(ALL * 22)[:2000], "&05;" * 500, "~00" * 666, "\\\\" * 1000] + made_texts(5, 2000)


def short_texts(signs, longest):
    """All texts of these signs, up to this length."""
    texts = [""]
    last = [""]
    for length in range(longest):
        last = [text + sign for text in last for sign in signs]
        texts.extend(last)
    return texts


def walk(source, state, length):
    """A text that can be run through from a state."""
    text = ""
    for place in range(length):
        signs = [sign for sign in source.choice([ALL, SIGNS_OF_BOXES, SIGNS_OF_BOXES])
                 if step(state, sign) is not None]
        if not signs:
            break
        text += source.choice(signs)
        state = step(state, text[-1])[0]
    return text


def some_states():
    """States of all modes, such as texts come to."""
    source = random.Random(7)
    states = {run(begin(), text[:cut])[0]: True for text in WHOLE for cut in range(len(text) + 1)}
    for number in range(40):
        for ahead in ["", "<a><b c=", "<a b=\"", "<a b(", "<asis>", "<b><asis></as", "<a b!\"'\\", "<a b!\"'\\&"]:
            state = run(begin(), ahead)[0]
            states[state] = True
            for sign in walk(source, state, 25):
                state = step(state, sign)[0]
                states[state] = True
    return list(states)


def made_text(source, longest):
    """One text of signs that matter."""
    signs = source.choice([ALL, "&;0123456789", "\\,)'a", "~0123456789az-", "<>&\\~\"", "</asi>", "'\"\\& "])
    return "".join([source.choice(signs) for place in range(source.randrange(longest + 1))])


def made_name(source):
    return source.choice(["a", "b", "asis", "text", "box", "out", "word", "abcdefgh", "z"])


def made_content(source, kind):
    """The content of an attr of a kind."""
    if kind == "row":
        return [made_text(source, 6) for item in range(source.randrange(1, 5))]
    if kind == "talk":
        words = "".join([source.choice(PLAIN) for sign in range(source.randrange(1, 5))])
        return [source.choice([("word", words), ("said", made_text(source, 6))])
                for part in range(source.randrange(5))]
    return made_text(source, 8)


def made_attrs(source):
    kinds = [source.choice(["bare", "quoted", "row", "talk"]) for attr in range(source.randrange(4))]
    return [(made_name(source), kind, made_content(source, kind)) for kind in kinds]


def made_page(source, depth):
    """A page, the same one for the same source."""
    rows = [("text", made_text(source, 8))]
    for box in range(source.randrange(4) if depth else 0):
        name = made_name(source)
        inner = made_page(source, depth - 1)
        if name == "asis":
            inner = [("text", made_text(source, 12).replace("</asis>", ""))]
        # what is left when an end of asis goes may be one itself
        if not (name == "asis" and "</asis>" in inner[0][1]):
            rows += [("box", name, made_attrs(source))] + inner + [("out",), ("text", made_text(source, 8))]
    return rows


def made_pages(many):
    source = random.Random(many)
    return [made_page(source, 3) for number in range(many)]


def lists_in(thing):
    """Each list and dict in a thing of lists, tuples and dicts, at whatever depth, the thing itself among them."""
    found = [thing] if isinstance(thing, (list, dict)) else []
    inner = thing.values() if isinstance(thing, dict) else thing
    for part in inner if isinstance(thing, (list, tuple, dict)) else []:
        found += lists_in(part)
    return found


def boxed(attrs):
    """A page of one box that is told with attrs."""
    return [("text", ""), ("box", "a", attrs), ("text", ""), ("out",), ("text", "")]


def good_pages():
    """Pages by hand: those that a point speaks of."""
    text, out, asis = ("text", ""), ("out",), ("box", "asis", [])
    pages = [
        [text], [("text", "x < & y")], boxed([]), boxed([]) + boxed([])[1:],
        [text, ("box", "a", []), text, ("box", "b", []), text, out, text, ("box", "a", []), text, out, text, out, text],
        [text, asis, text, out, text], [text, asis, ("text", "<b></b>&00;"), out, text],
        [text, asis, ("text", "</asis"), out, ("text", "</asis>")], [text, asis, ("text", "</ASIS><asis>"), out, text],
        [text, ("box", "a", []), ("text", "</asis>"), asis, ("text", "</asi</asi"), out, ("text", "</asis>"), out,
         text],
        boxed([("asis", "quoted", "</asis>")]),
        [text, ("box", "asis", [("b", "quoted", "</asis>"), ("c", "talk", [("said", "</asis>")])]), text, out, text],
        boxed([("b", "bare", "")]), boxed([("b", "quoted", "")]), boxed([("b", "row", [""])]),
        boxed([("b", "talk", [])]),
        boxed([("b", "row", ["", "", ""])]), boxed([("b", "row", ["a,b", ")", "\\"])]),
        boxed([("b", "talk", [("said", ""), ("said", ""), ("word", "-"), ("word", "a0"), ("said", "'"),
                              ("word", "z")])]),
        boxed([("b", "bare", "x"), ("b", "bare", "x"), ("b", "row", ["x"]), ("b", "talk", []), ("b", "quoted", ALL)]),
        [text, ("box", "abcdefgh", [("abcdefgh", "bare", ALL)]), ("text", ALL), out, ("text", ALL)],
        [("text", ALL * 50)], boxed([("b", kind, ALL * 50) for kind in ["bare", "quoted"]]),
        boxed([("b", "row", [ALL * 30] * 3), ("c", "talk", [("word", PLAIN * 90), ("said", ALL * 30)])]),
        [text, asis, ("text", ALL * 50), out, text],
    ]
    deep = [text]
    for depth in range(300):
        deep = [text, ("box", "a", [])] + deep + [out, text]
    return pages + [deep]


def wrong_attrs():
    """What can't be the attrs of a box, each by itself; the second one of two is wrong in the last ones."""
    good = ("b", "bare", "x")
    contents = {
        "bare": [None, 1, True, [], ["x"], ("x",), {}, "\t", "a%", "a\nb", Unequal()],
        "quoted": [None, 1, True, [], ["x"], ("x",), {}, "\n", "a%", Unequal()],
        "row": [None, 1, True, "", "x", (), ("x",), {}, [], [None], ["x", 1], ["x", "\t"], ["%"], [["x"]], {"x": "y"}],
        "talk": [None, 1, True, "", "x", (), {}, ["x"], [()], [("word",)], [("word", "")], [("word", "A")],
                 [("word", "a b")], [("word", "~00")], [("word", "a", "b")], [("word", None)], [("word", ["a"])],
                 [["word", "a"]], [("said",)], [("said", None)], [("said", "%")], [("said", "x", "y")], [("says", "x")],
                 [("said", "x"), ("word", "\t")], [("word", "a"), None], [(None, "a")], [(Unequal(), "a")],
                 [("", "a")], (("word", "a"),), [("word", Unequal())]],
    }
    wrong = [[(name, "bare", "x")] for name in NO_NAMES]
    wrong += [[("b", kind, content)] for kind in contents for content in contents[kind]]
    wrong += [[("b", kind, "x")]
              for kind in [None, True, 0, "", "Bare", "bare ", "said", "word", "text", [], Unequal()]]
    wrong += [[("b", kind, [])] for kind in ["", "rows", "words", None, Unequal()]]
    wrong += [[thing] for thing in [None, True, 1, "", "abc", [], ["b", "bare", "x"], {}, (), ("b",), ("b", "bare"),
                                    ("b", "bare", "x", "y"), Unequal()]]
    return wrong + [[good] + attrs for attrs in wrong]


def wrong_pages():
    """What is no page, each in a tuple with the number that is told of it."""
    text, out, box, asis = ("text", ""), ("out",), ("box", "a", []), ("box", "asis", [])
    whole = [text, box, text, out, text]
    wrong = [(thing, 0) for thing in OTHERS + [Unequal(), tuple(whole), (text,), "text", {"text": ""}]]
    wrong += [([], 0), (whole[:2], 2), (whole[:3], 3), (whole[:4], 4), (whole + [box], 6), (whole + [box, text], 7),
              ([text, box, text, box, text, out, text], 7), ([text, asis], 2), ([text, asis, text], 3)]
    for row in [text, ("text", "x"), None, True, 1, "", "out", [], ["out"], ["box", "a", []], {}, (), ("out", ""),
                ("Out",), (None,), (True,), ("box",), ("box", "a"), ("box", "a", [], []), ("in",),
                ("Box", "a", []), (Unequal(),), Unequal(), (["out"],), ("boxes", "a", [])]:
        wrong += [([text, row], 1), ([text, row, text], 1), ([text, box, text, row, text, out, text], 3)]
    for row in [box, out, None, False, 0, "", "text", [], ["text", ""], {}, (), ("text",), ("text", "", ""),
                ("Text", ""), ("text", None), ("text", True), ("text", 1), ("text", []), ("text", ["x"]),
                ("text", ("x",)), ("text", "\t"), ("text", "a" * 3000 + "%"), ("text", "\n"), (None, ""),
                (Unequal(), ""), Unequal(), ("text", Unequal())]:
        wrong += [([row], 0), ([row] + whole[1:], 0), (whole[:2] + [row] + whole[3:], 2), (whole[:4] + [row], 4)]
    wrong += [([text, out], 1), ([text, out, text], 1), (whole + [out, text], 5), (whole + [out], 5)]
    wrong += [([text, ("box", name, []), text, out, text], 1) for name in NO_NAMES]
    wrong += [(boxed(attrs), 1) for attrs in [None, True, 0, "", "abc", (), (("b", "bare", "x"),), {}] + wrong_attrs()]
    wrong += [(boxed([])[:-1] + boxed(attrs), 5) for attrs in wrong_attrs()[::7]]
    wrong += [([text, asis] + whole + [out, text], 3), ([text, asis, text, asis, text, out, text, out, text], 3),
              ([text, box, text, asis, text, box, text, out, text, out, text, out, text], 5)]
    for end in ["</asis>", "x</asis>y", "</asi</asis>", "</asis></asis>", ALL + "</asis>" + ALL]:
        wrong += [([text, asis, ("text", end), out, text], 2), ([text, asis, ("text", end)], 2),
                  ([text, box, text, asis, ("text", end), out, text, out, text], 4)]
    # of several faults the first one by its row is told
    wrong += [([text, box, ("text", "%"), out, None], 2), ([None, None], 0), ([text, text, None, None], 1)]
    return wrong


def made_piece(source, depth, is_over, names):
    """A piece within a block, where a sheet lies over another one; names are those that no block has yet."""
    word = source.choice(["lit", "lit", "hole", "elder", "draw", "each", "if", "block"])
    name = source.choice(["a", "lit", "hole", "abcdefgh", "x"])
    if word == "draw":
        return ("draw", source.choice(["a", "sheet"] + BRACE_WORDS))
    if word == "elder" and is_over:
        return ("elder",)
    if depth and word == "block" and names:
        return ("block", names.pop(), made_pieces(source, depth - 1, is_over, names))
    if depth and word == "each":
        return ("each", name, made_pieces(source, depth - 1, is_over, names))
    if depth and word == "if":
        first = made_pieces(source, depth - 1, is_over, names)
        return ("if", name, first, made_pieces(source, depth - 1, is_over, names))
    return ("hole", name) if word == "hole" else ("lit", made_text(source, 5) + source.choice("{}a <"))


def made_pieces(source, depth, is_over, names):
    """Pieces as they stand within a block, no two literals side by side."""
    pieces = []
    for number in range(source.randrange(5)):
        piece = made_piece(source, depth, is_over, names)
        if not (piece[0] == "lit" and pieces and pieces[-1][0] == "lit"):
            pieces.append(piece)
    return pieces


def made_sheets(many):
    """Tuples of over and pieces such as texts of at most 2000 signs tell."""
    source = random.Random(many * 31)
    sheets = []
    while len(sheets) < many:
        names = ["b", "block", "end", "elder", "over", "abcdefgh", "top"]
        over = source.choice([None, "base", "over"])
        if over is None:
            pieces = made_pieces(source, 4, False, names)
        else:
            blocks = range(source.randrange(4))
            pieces = [("block", names.pop(), made_pieces(source, 4, True, names)) for block in blocks if names]
        if len(told_by(over, pieces)) <= 2000:
            sheets.append((over, pieces))
    return sheets


def told_by(over, pieces, each_else=False):
    """The text of a sheet, without an else that has nothing behind it, or with an else in each choice."""
    text = "" if over is None else "{over " + over + "}"
    for word, *rest in pieces:
        if word == "lit":
            text += rest[0].replace("{", "\n").replace("}", "{)}").replace("\n", "{(}")
        elif word == "hole":
            text += "{" + rest[0] + "}"
        else:
            text += "{" + " ".join([word] + rest[:1]) + "}"
        if word in ("each", "if", "block"):
            text += told_by(None, rest[1], each_else)
            if word == "if" and (rest[2] or each_else):
                text += "{else}" + told_by(None, rest[2], each_else)
            text += "{end}"
    return text

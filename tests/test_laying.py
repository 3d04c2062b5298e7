"""Points 2, 4, 63, 64, 65 and 66: sealpress.laying."""

import copy
import random
import unittest

from sealpress.chains import bodies_of, chain_of, leans_on
from sealpress.errors import NoElder, RingOver, Ringed, TooMany, Unknown
from sealpress.laying import laid
from tests.to_try import book_of, lists_in, loose_books, refused_by

# as many loops as a text can have in one another
TWELVE = "{each x}" * 12
ENDS = "{end}" * 12


def lit(text):
    return ("lit", text)


def seat(word, sheet, block, *pieces):
    return ("seat", word, sheet, block, list(pieces))


def drawn(name):
    """The four things of a draw."""
    return (name, "draw", name, "")


def met(book, page, sheet, block, pieces, around):
    """What is met as pieces are laid, in the order of the text, as long as one asks; a refusal as a tuple."""
    for piece in pieces:
        word = piece[0]
        if word in ("lit", "hole"):
            yield ("leaf", piece)
        elif word in ("each", "if"):
            yield ("begin", piece[:2])
            yield from met(book, page, sheet, block, piece[2], around)
            for branch in piece[3:]:
                yield ("else",)
                yield from met(book, page, sheet, block, branch, around)
            yield ("end",)
        else:
            yield ("begin", None)
            if word == "draw":
                chain = refused_by(chain_of, book, piece[1])
                if isinstance(chain, tuple):
                    yield ("refused", chain)
                four, inner = drawn(piece[1]), book.sheet(chain[-1]).pieces
            else:
                asked = piece[1] if word == "block" else block
                bodies = bodies_of(book, page, asked)
                if word == "elder":
                    bodies = bodies[[body[0] for body in bodies].index(sheet) + 1:]
                if not bodies:
                    yield ("refused", ("NoElder", block))
                four, inner = (page, word, bodies[0][0], asked), bodies[0][1]
            if four in around:
                yield ("refused", ("Ringed", around[around.index(four):]))
            yield ("called", ("seat",) + four[1:])
            yield from met(book, four[0], four[2], four[3], inner, around + [four])
            yield ("end",)


def right_laid(book, name):
    """The laid page, made of what is met, or the refusal's name and field."""
    chain = refused_by(chain_of, book, name)
    if isinstance(chain, tuple):
        return chain
    # each a tuple of a piece's beginning and its lists
    stack = [((), [[]])]
    many = signs = 0
    for thing in met(book, name, None, None, book.sheet(chain[-1]).pieces, [drawn(name)]):
        if thing[0] in ("leaf", "begin"):
            many += 1
            signs += len(thing[1][1]) if thing[0] == "leaf" and thing[1][0] == "lit" else 0
            if many > 600 or signs > 20000 or thing[0] == "begin" and len(stack) > 40:
                return ("TooMany",)
        if thing[0] == "refused":
            return thing[1]
        elif thing[0] == "leaf":
            stack[-1][1][-1].append(thing[1])
        elif thing[0] == "begin":
            stack.append((thing[1], [[]]))
        elif thing[0] == "called":
            stack[-1] = (thing[1], [[]])
        elif thing[0] == "else":
            stack[-1][1].append([])
        else:
            beginning, lists = stack.pop()
            stack[-1][1][-1].append(beginning + tuple(lists))
    return stack[0][1][0]


def without(pieces, blocks):
    """Laid pieces in which nothing stands in the seats of these blocks."""
    own = []
    for piece in pieces:
        if piece[0] == "seat" and piece[1] == "block" and piece[3] in blocks:
            own.append(("cut", piece[3]))
        else:
            own.append(tuple([without(part, blocks) if isinstance(part, list) else part for part in piece]))
    return own


def seats_in(pieces):
    """All seats in laid pieces."""
    found = [piece for piece in pieces if piece[0] == "seat"]
    for piece in pieces:
        for part in piece:
            found += seats_in(part) if isinstance(part, list) else []
    return found


class LaidTest(unittest.TestCase):
    def assert_laid(self, texts, name, pieces):
        book = book_of(texts)
        self.assertEqual(laid(book, name), pieces)
        self.assertEqual(right_laid(book, name), pieces)

    def test_without_blocks_elders_and_draws(self):
        texts = {"a": "x{y}{each z}1{if w}2{else}{v}{end}{end}{(}", "b": "{over a}", "c": "{over b}{block p}q{end}",
                 "e": ""}
        pieces = [lit("x"), ("hole", "y"), ("each", "z", [lit("1"), ("if", "w", [lit("2")], [("hole", "v")])]),
                  lit("{")]
        for name in "abc":
            self.assert_laid(texts, name, pieces)
        self.assertEqual(laid(book_of(texts), "a"), book_of(texts).sheet("a").pieces)
        self.assert_laid(texts, "e", [])

    def test_a_block_of_one_sheet(self):
        self.assert_laid({"a": "1{block p}2{end}3"}, "a", [lit("1"), seat("block", "a", "p", lit("2")), lit("3")])
        self.assert_laid({"a": "{block p}{end}"}, "a", [seat("block", "a", "p")])

    def test_blocks_put_otherwise_by_younger_sheets(self):
        texts = {"a": "1{block p}2{end}{if x}{block q}3{end}{else}{each y}{block r}4{end}{end}{end}",
                 "b": "{over a}{block q}5{end}{block p}6{end}", "c": "{over b}{block p}7{end}{block none}8{end}"}
        for name, p, q in [("a", ("a", "2"), ("a", "3")), ("b", ("b", "6"), ("b", "5")), ("c", ("c", "7"), ("b", "5"))]:
            self.assert_laid(texts, name, [
                lit("1"), seat("block", p[0], "p", lit(p[1])),
                ("if", "x", [seat("block", q[0], "q", lit(q[1]))],
                 [("each", "y", [seat("block", "a", "r", lit("4"))])])])

    def test_blocks_within_blocks(self):
        texts = {"a": "{block p}1{block q}2{block r}3{end}{end}{end}", "b": "{over a}{block q}4{block s}5{end}{end}",
                 "c": "{over a}{block r}6{end}", "d": "{over b}{block s}7{end}{block r}8{end}",
                 "e": "{over a}{block q}9{block r}0{end}{end}", "f": "{over e}{block p}{block r}z{end}{end}"}
        self.assert_laid(texts, "a", [seat("block", "a", "p", lit("1"), seat(
            "block", "a", "q", lit("2"), seat("block", "a", "r", lit("3"))))])
        self.assert_laid(texts, "b", [seat("block", "a", "p", lit("1"), seat(
            "block", "b", "q", lit("4"), seat("block", "b", "s", lit("5"))))])
        self.assert_laid(texts, "c", [seat("block", "a", "p", lit("1"), seat(
            "block", "a", "q", lit("2"), seat("block", "c", "r", lit("6"))))])
        self.assert_laid(texts, "d", [seat("block", "a", "p", lit("1"), seat(
            "block", "b", "q", lit("4"), seat("block", "d", "s", lit("7"))))])
        self.assert_laid(texts, "e", [seat("block", "a", "p", lit("1"), seat(
            "block", "e", "q", lit("9"), seat("block", "e", "r", lit("0"))))])
        self.assert_laid(texts, "f", [seat("block", "f", "p", seat("block", "f", "r", lit("z")))])

    def test_blocks_met_in_nothing_that_is_laid(self):
        texts = {"a": "{block p}{block q}1{end}{end}", "b": "{over a}{block p}2{end}{block r}{block s}3{end}{end}",
                 "c": "{over b}{block q}4{end}{block s}5{end}"}
        for name in "bc":
            self.assert_laid(texts, name, [seat("block", "b", "p", lit("2"))])

    def test_a_block_in_one_that_is_met_in_nothing_is_a_body_all_the_same(self):
        texts = {"a": "{block p}1{end}", "b": "{over a}{block none}{block p}2{elder}{end}{end}"}
        self.assert_laid(texts, "b", [seat("block", "b", "p", lit("2"), seat("elder", "a", "p", lit("1")))])

    def test_a_block_in_a_body_put_otherwise_is_laid_where_an_elder_lays_it(self):
        texts = {"a": "{block p}1{block q}2{end}{end}", "b": "{over a}{block p}3{elder}{end}",
                 "c": "{over b}{block q}4{elder}{end}"}
        self.assert_laid(texts, "c", [seat("block", "b", "p", lit("3"), seat(
            "elder", "a", "p", lit("1"), seat("block", "c", "q", lit("4"), seat("elder", "a", "q", lit("2")))))])

    def test_elders_one_in_another(self):
        texts = {"a": "{block p}1{end}", "b": "{over a}{block p}2{elder}3{end}", "m": "{over b}{block q}x{end}",
                 "c": "{over m}{block p}{each x}{elder}{end}{end}"}
        self.assert_laid(texts, "c", [seat("block", "c", "p", ("each", "x", [
            seat("elder", "b", "p", lit("2"), seat("elder", "a", "p", lit("1")), lit("3"))]))])
        self.assert_laid(texts, "b", [seat("block", "b", "p", lit("2"), seat("elder", "a", "p", lit("1")), lit("3"))])

    def test_an_elder_twice_in_one_body(self):
        texts = {"a": "{block p}1{end}", "b": "{over a}{block p}{elder}{elder}{end}",
                 "c": "{over b}{block p}{elder}{if x}{elder}{else}{elder}{end}{end}"}
        one = seat("elder", "a", "p", lit("1"))
        two = seat("elder", "b", "p", one, one)
        self.assert_laid(texts, "c", [seat("block", "c", "p", two, ("if", "x", [two], [two]))])

    def test_an_elder_belongs_to_the_innermost_block_around_it(self):
        texts = {"a": "{block p}1{end}{block q}2{end}",
                 "b": "{over a}{block p}{block q}{elder}{end}{elder}{end}"}
        q = seat("block", "b", "q", seat("elder", "a", "q", lit("2")))
        self.assert_laid(texts, "b", [seat("block", "b", "p", q, seat("elder", "a", "p", lit("1"))), q])

    def test_draws_at_the_top_and_within(self):
        page = "{draw z}{block p}{draw z}{end}{each x}{draw z}{end}{if y}1{draw z}{else}{draw z}{end}"
        for part, z in [("{w}", seat("draw", "z", "", ("hole", "w"))), ("", seat("draw", "z", ""))]:
            self.assert_laid({"a": page, "z": part}, "a", [
                z, seat("block", "a", "p", z), ("each", "x", [z]), ("if", "y", [lit("1"), z], [z])])

    def test_a_part_is_laid_by_its_own_chain_alone(self):
        texts = {"base": "{block p}1{end}{block q}2{end}", "part": "{over base}{block p}3{elder}{end}",
                 "page": "{over root}{block q}4{end}{block p}5{draw part}{end}",
                 "root": "{block p}6{end}{draw part}{block q}7{end}"}
        part = seat("draw", "part", "", seat("block", "part", "p", lit("3"), seat("elder", "base", "p", lit("1"))),
                    seat("block", "base", "q", lit("2")))
        self.assert_laid(texts, "page", [seat("block", "page", "p", lit("5"), part), part,
                                         seat("block", "page", "q", lit("4"))])
        self.assert_laid(texts, "root", [seat("block", "root", "p", lit("6")), part,
                                         seat("block", "root", "q", lit("7"))])

    def test_parts_in_parts(self):
        texts = {"a": "{draw b}", "b": "1{draw c}{draw c}", "c": "{over d}{block p}{draw e}{end}",
                 "d": "{block p}{end}", "e": "2"}
        c = seat("draw", "c", "", seat("block", "c", "p", seat("draw", "e", "", lit("2"))))
        self.assert_laid(texts, "a", [seat("draw", "b", "", lit("1"), c, c)])

    def test_literals_are_not_joined(self):
        texts = {"a": "1{block p}{end}2{draw b}{block q}{if x}{end}{end}", "b": "3{draw c}", "c": "4"}
        self.assert_laid(texts, "a", [lit("1"), seat("block", "a", "p"), lit("2"), seat(
            "draw", "b", "", lit("3"), seat("draw", "c", "", lit("4"))), seat("block", "a", "q", ("if", "x", [], []))])

    def test_blocks_and_sheets_called_like_words(self):
        texts = {"draw": "{block elder}1{end}{draw over}", "over": "{block end}{end}",
                 "block": "{over draw}{block elder}{elder}{end}"}
        over = seat("draw", "over", "", seat("block", "over", "end"))
        elder = seat("elder", "draw", "elder", lit("1"))
        self.assert_laid(texts, "block", [seat("block", "block", "elder", elder), over])

    def test_told_lists_are_the_askers_own(self):
        texts = {"a": "{block p}{if x}1{end}{end}{draw c}", "b": "{over a}{block p}{elder}{elder}{end}",
                 "c": "{each y}{end}"}
        book = book_of(texts)
        told, kept = laid(book, "b"), laid(book_of(texts), "b")
        lists = lists_in(laid(book, "b"))
        self.assertEqual(len({id(found) for found in lists}), len(lists))
        for found in lists:
            found.append(lit("mine"))
        self.assertEqual(laid(book, "b"), kept)
        self.assertEqual([(name, book.sheet(name).pieces) for name in "abc"],
                         [(name, book_of(texts).sheet(name).pieces) for name in "abc"])
        book.tell("a", "")
        self.assertEqual(told, kept)
        self.assertEqual(laid(book, "b"), [])


class RefusalsTest(unittest.TestCase):
    def assert_refused(self, texts, name, refusal, *fields):
        book = book_of(texts)
        self.assertEqual(refused_by(laid, book, name), (refusal.__name__,) + fields)
        self.assertEqual(right_laid(book, name), (refusal.__name__,) + fields)

    def assert_is_laid(self, texts, name):
        book = book_of(texts)
        pieces = laid(book, name)
        self.assertEqual(pieces, right_laid(book, name))
        return pieces

    def test_the_chain_ahead_of_all(self):
        wrong = "{block p}{elder}{draw none}{end}" + "{block q}" + "{x}" * 600 + "{end}"
        self.assert_refused({}, "a", Unknown, "a")
        self.assert_refused({"a": "{over b}" + wrong}, "a", Unknown, "b")
        self.assert_refused({"a": "{over a}" + wrong}, "a", RingOver, ["a"])
        self.assert_refused({"a": "{over b}" + wrong, "b": "{over c}", "c": "{over b}"}, "a", RingOver, ["b", "c"])

    def test_the_601st_piece(self):
        self.assertEqual(len(self.assert_is_laid({"a": "{x}" * 600}, "a")), 600)
        self.assert_refused({"a": "{x}" * 601}, "a", TooMany)
        self.assert_is_laid({"a": "x{x}" * 300}, "a")
        self.assert_refused({"a": "x{x}" * 300 + "x"}, "a", TooMany)

    def test_seats_eaches_and_ifs_are_counted(self):
        holes = {"b": "{x}" * 29, "c": "{block p}" + "{x}" * 28 + "{end}", "d": "{over c}{block p}{elder}{end}",
                 "e": "{each x}" + "{x}" * 28 + "{end}", "f": "{if x}" + "{x}" * 20 + "{else}" + "{x}" * 8 + "{end}"}
        for part in ["b", "c", "e", "f"]:
            self.assert_is_laid(dict(holes, a=("{draw " + part + "}") * 20), "a")
            self.assert_refused(dict(holes, a=("{draw " + part + "}") * 20 + "x"), "a", TooMany)
        # each elder is one more seat
        self.assert_is_laid(dict(holes, a="{draw d}" * 19 + "{x}" * 11), "a")
        self.assert_refused(dict(holes, a="{draw d}" * 19 + "{x}" * 12), "a", TooMany)

    def test_each_kind_of_piece_is_the_601st(self):
        many = {"b": "{x}" * 598}
        for last in ["x", "{x}", "{each x}{end}", "{if x}{end}", "{block p}{end}", "{draw none}", "{draw a}"]:
            self.assert_refused(dict(many, a="{draw b}{y}" + last), "a", TooMany)
        # an elder, be there one behind it or none
        elder = {"d": "{draw b}{block p}{end}", "e": "{over d}{block p}{elder}{end}",
                 "f": "{over d}{block p}{block z}{elder}{end}{end}"}
        self.assert_is_laid(dict(elder, b="{x}" * 597), "e")
        self.assert_refused(dict(elder, b="{x}" * 598), "e", TooMany)
        self.assert_refused(dict(elder, b="{x}" * 597), "f", TooMany)
        self.assert_refused(dict(elder, b="{x}" * 596), "f", NoElder, "z")

    def test_within_forty_others(self):
        within = {"a": TWELVE + "{draw b}" + ENDS, "b": "{if x}{else}" * 12 + "{draw c}" + ENDS,
                  "c": TWELVE + "{draw d}" + ENDS}
        for last in ["{each x}{end}", "{if x}{else}{end}", "{block p}{end}", "{draw f}"]:
            # here it stands within thirty-nine
            self.assert_is_laid(dict(within, d=last, f=""), "a")
            self.assert_is_laid(dict(within, d="{each x}1{x}{end}" + last, f=""), "a")
            for around in ["{each x}", "{if y}", "{if y}{else}", "{block q}"]:
                self.assert_refused(dict(within, d=around + last + "{end}", f=""), "a", TooMany)
            self.assert_refused(dict(within, d="{draw f}", f=last, g=""), "a", TooMany)
            self.assert_is_laid(dict(within, d="{draw f}", f="1{x}"), "a")

    def test_an_elder_within_forty_others(self):
        within = {"a": TWELVE + "{draw b}" + ENDS, "b": "{if x}{else}" * 12 + "{draw c}" + ENDS,
                  "c": "{each x}" * 11 + "{draw d}" + "{end}" * 11, "base": "{block p}{end}"}
        # the draw of d is the thirty-eighth, its block the thirty-ninth
        self.assert_is_laid(dict(within, d="{over base}{block p}{elder}{end}"), "a")
        self.assert_refused(dict(within, d="{over base}{block p}{each x}{elder}{end}{end}"), "a", TooMany)
        self.assert_refused(dict(within, d="{over e}{block p}{elder}{end}", e="{over base}{block p}{elder}{end}"),
                            "a", TooMany)
        # ahead of what else is due there
        self.assert_refused(dict(within, d="{over base}{block p}{block q}{elder}{end}{end}"), "a", TooMany)
        self.assert_refused(dict(within, d="{block p}{each x}{draw none}{end}{end}"), "a", TooMany)
        self.assert_refused(dict(within, d="{block p}{each x}{draw a}{end}{end}"), "a", TooMany)
        self.assert_refused(dict(within, d="{block p}{draw none}{end}"), "a", Unknown, "none")

    def test_one_behind_another_is_not_within(self):
        self.assert_is_laid({"a": "{each x}{end}" * 100 + "{block p}{if y}{end}{end}"}, "a")
        self.assert_is_laid({"a": "{draw b}" * 100, "b": "{if x}1{else}{each y}{end}{end}"}, "a")

    def test_the_signs_of_all_literals(self):
        texts = {"b": "x" * 2000, "c": "y" * 1999, "one": "{block p}z{end}"}
        self.assert_is_laid(dict(texts, a="{draw b}" * 10), "a")
        self.assert_is_laid(dict(texts, a="{draw b}" * 10 + "{x}{if y}{end}{each z}{end}{block p}{end}"), "a")
        self.assert_is_laid(dict(texts, a="{draw b}" * 9 + "{draw c}{draw one}"), "a")
        self.assert_refused(dict(texts, a="{draw b}" * 10 + "z"), "a", TooMany)
        self.assert_refused(dict(texts, a="{draw b}" * 10 + "{draw one}"), "a", TooMany)
        self.assert_refused(dict(texts, a="{draw b}" * 9 + "{draw c}{draw one}{draw c}"), "a", TooMany)
        branches = "{if x}" + "{draw b}" * 5 + "{else}" + "{draw b}" * 5 + "{end}"
        self.assert_is_laid(dict(texts, a=branches), "a")
        self.assert_refused(dict(texts, a=branches + "{(}"), "a", TooMany)

    def test_the_signs_are_counted_as_they_are_read(self):
        self.assert_is_laid({"a": "{draw b}" * 30, "b": "{(}" * 666}, "a")
        self.assert_refused({"a": "{draw b}" * 31, "b": "{(}" * 666}, "a", TooMany)

    def test_what_a_drawn_chain_refuses(self):
        self.assert_refused({"a": "x{draw none}"}, "a", Unknown, "none")
        self.assert_refused({"a": "{draw b}", "b": "{over none}"}, "a", Unknown, "none")
        self.assert_refused({"a": "{draw b}", "b": "{over c}", "c": "{over b}"}, "a", RingOver, ["b", "c"])
        self.assert_refused({"a": "{draw b}", "b": "{over c}", "c": "{over c}"}, "a", RingOver, ["c"])
        for text in ["{block p}{draw none}{end}", "{each x}{draw none}{end}", "{if x}{draw none}{end}",
                     "{if x}{else}{draw none}{end}", "{draw c}"]:
            self.assert_refused({"a": text, "c": "{draw none}"}, "a", Unknown, "none")

    def test_what_is_not_laid_is_not_refused(self):
        texts = {"a": "{block p}{draw none}{end}", "b": "{over a}{block p}1{end}{block q}{elder}{draw b}{end}"}
        self.assertEqual(self.assert_is_laid(texts, "b"), [seat("block", "b", "p", lit("1"))])

    def test_no_elder(self):
        texts = {"a": "{block p}{end}", "b": "{over a}{block p}{block q}{if x}{elder}{end}{end}{elder}{end}"}
        self.assert_refused(texts, "b", NoElder, "q")
        texts = {"a": "{block p}{end}", "b": "{over a}{block p}{block q}{elder}{end}{elder}{end}",
                 "c": "{over b}{block q}{each x}{elder}{end}{end}"}
        self.assert_refused(texts, "c", NoElder, "q")
        self.assert_refused({"m": "{draw c}", **texts}, "m", NoElder, "q")

    def test_a_draw_of_the_page_itself(self):
        for text in ["{draw a}", "x{each y}{if z}{else}{draw a}{end}{end}"]:
            self.assert_refused({"a": text}, "a", Ringed, [drawn("a")])
        self.assert_refused({"a": "{block p}{draw a}{end}"}, "a", Ringed, [drawn("a"), ("a", "block", "a", "p")])

    def test_rings_of_several_draws(self):
        texts = {"a": "{draw b}", "b": "x{draw c}", "c": "{draw a}", "in": "{draw b}"}
        self.assert_refused(texts, "a", Ringed, [drawn("a"), drawn("b"), drawn("c")])
        self.assert_refused(texts, "b", Ringed, [drawn("b"), drawn("c"), drawn("a")])
        self.assert_refused(texts, "in", Ringed, [drawn("b"), drawn("c"), drawn("a")])

    def test_the_same_part_twice_is_no_ring(self):
        self.assert_is_laid({"a": "{draw b}{draw b}{draw c}", "b": "{draw d}", "c": "{draw b}{draw d}", "d": ""}, "a")

    def test_blocks_in_a_ring(self):
        texts = {"a": "{block p}{end}", "b": "{over a}{block p}{block q}{end}{end}",
                 "c": "{over b}{block q}{block p}{elder}{end}{end}"}
        self.assert_refused(texts, "c", Ringed, [("c", "block", "c", "p"), ("c", "elder", "b", "p"),
                                                 ("c", "block", "c", "q")])
        self.assert_refused(dict(texts, m="{draw c}"), "m", Ringed, [
            ("c", "block", "c", "p"), ("c", "elder", "b", "p"), ("c", "block", "c", "q")])

    def test_rings_through_draws(self):
        texts = {"base": "{block p}{end}", "a": "{over base}{block p}{draw c}{elder}{end}",
                 "c": "{over a}{block p}{elder}{end}", "m": "{draw a}"}
        ring = [drawn("c"), ("c", "block", "c", "p"), ("c", "elder", "a", "p")]
        for name in ["c", "a", "m"]:
            self.assert_refused(texts, name, Ringed, ring)
        texts = {"a": "{block p}{draw b}{end}", "b": "{each x}{block q}{draw a}{end}{end}"}
        self.assert_refused(texts, "a", Ringed, [drawn("a"), ("a", "block", "a", "p"), drawn("b"),
                                                 ("b", "block", "b", "q")])

    def test_one_body_in_the_chains_of_two_pages_is_no_ring(self):
        texts = {"a": "{block p}{block q}{draw b}{end}{end}", "b": "{over a}{block q}x{end}"}
        self.assertEqual(self.assert_is_laid(texts, "a"), [
            seat("block", "a", "p", seat("block", "a", "q", seat(
                "draw", "b", "", seat("block", "a", "p", seat("block", "b", "q", lit("x"))))))])

    def test_the_first_piece_by_the_order_of_the_text(self):
        wrong = {"none": ("{draw none}", ("Unknown", "none")), "ring": ("{draw a}", ("Ringed", [drawn("a")])),
                 "over": ("{draw o}", ("RingOver", ["o"])), "elder": ("{draw e}", ("NoElder", "q")),
                 "many": ("{draw m}", ("TooMany",))}
        texts = {"o": "{over o}", "e": "{over f}{block p}{block q}{elder}{end}{end}", "f": "{block p}{end}",
                 "m": "{x}" * 600}
        for one, other in [(one, other) for one in wrong for other in wrong]:
            first, told = wrong[one]
            second = wrong[other][0]
            for text in [first + second, "{if x}" + first + "{else}" + second + "{end}",
                         "x{each y}" + first + "{end}" + second]:
                around = book_of(dict(texts, a=text))
                self.assertEqual(refused_by(laid, around, "a"), told)
                self.assertEqual(right_laid(around, "a"), told)

    def test_what_is_refused_is_the_askers_own(self):
        book = book_of({"a": "{draw b}", "b": "{draw a}"})
        refused_by(laid, book, "a")[1].append("mine")
        self.assert_refused({"a": "{draw b}", "b": "{draw a}"}, "a", Ringed, [drawn("a"), drawn("b")])
        self.assertEqual(refused_by(laid, book, "a"), ("Ringed", [drawn("a"), drawn("b")]))

    def test_elders_that_double_are_too_many_at_last(self):
        texts = {"aa": "{block p}x{end}"}
        for one, other in zip("abcdefghijklmnopqr", "bcdefghijklmnopqr"):
            texts["a" + other] = "{over a" + one + "}{block p}{elder}{elder}{end}"
        self.assert_is_laid(texts, "ah")
        self.assert_refused(texts, "ar", TooMany)


class AnyBooksTest(unittest.TestCase):
    def test_laid_and_refused(self):
        seen = {}
        for texts in loose_books(700):
            book = book_of(texts)
            for name in "abcde":
                told = refused_by(laid, book, name)
                self.assertEqual(told, right_laid(book, name), (texts, name))
                word = told[0] if isinstance(told, tuple) else "laid"
                seen[word] = seen.get(word, 0) + 1
                for piece in seats_in(told) if word == "laid" else []:
                    seen[piece[1]] = seen.get(piece[1], 0) + 1
        for word in ["laid", "Unknown", "RingOver", "NoElder", "Ringed", "block", "elder", "draw"]:
            self.assertGreater(seen.get(word, 0), 10, seen)

    def test_a_drawn_part_is_laid_alike_wherever_it_is_drawn(self):
        for texts in loose_books(300):
            book = book_of(texts)
            for name in "abcde":
                told = refused_by(laid, book, name)
                for piece in seats_in(told) if isinstance(told, list) else []:
                    if piece[1] == "draw":
                        self.assertEqual(piece[4], laid(book, piece[2]))

    def test_a_later_sheet_moves_nothing_but_its_blocks(self):
        many = 0
        for texts in loose_books(300):
            book = book_of(texts)
            for name in texts:
                sheet = book.sheet(name)
                one = refused_by(laid, book, name)
                other = None if sheet.over is None else refused_by(laid, book, sheet.over)
                if isinstance(one, list) and isinstance(other, list):
                    blocks = sheet.blocks()
                    self.assertEqual(without(one, blocks), without(other, blocks))
                    many += one != other
        self.assertGreater(many, 20)

    def test_other_names_change_nothing(self):
        source = random.Random(66)
        for texts in loose_books(150):
            book = book_of(texts)
            for name in "abcde":
                told = copy.deepcopy(refused_by(laid, book, name))
                changed = book.copied()
                for other in [other for other in "abcdef" if other not in leans_on(book, name)]:
                    changed.tell(other, source.choice(list(texts.values()) + ["{over a}", ""]))
                self.assertEqual(refused_by(laid, changed, name), told)


if __name__ == "__main__":
    unittest.main()

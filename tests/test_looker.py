"""Points 2, 4, 72, 73 and 74: sealpress.looker."""

import copy
import unittest

from sealpress.errors import Astray, LeftOpen, NoPlace, Unlike, Unread
from sealpress.looker import look
from sealpress.places import place_of
from sealpress.steps import begin, floored, is_end, run
from sealpress.ways import state_at, walked
from tests.to_try import let_by, lists_in, refused_by, right_look, with_faults

X = ("hole", "x")
SEAT = ("seat", "block", "s", "p")


def lit(text):
    return ("lit", text)


def each(*pieces):
    return ("each", "e", list(pieces))


def either(first, second):
    return ("if", "i", first, second)


def seat(*pieces):
    return SEAT + (list(pieces),)


class Fault(Exception):
    """Something on some way is not as it must be."""


def only(ok):
    if not ok:
        raise Fault


def all_states(pieces, states, seen):
    """The states behind pieces on all ways from some states; Fault where one is found; seen are those at a piece."""
    for piece in pieces:
        seen.append(states)
        if piece[0] == "lit":
            try:
                states = {run(state, piece[1])[0] for state in states}
            except Unread:
                raise Fault from None
        elif piece[0] == "hole":
            only(all([place_of(state) for state in states]))
        elif piece[0] == "seat":
            floors = {floored(state) for state in states}
            for floor in floors:
                only(all_states(piece[4], {floor}, seen) == {floor})
        else:
            behind = set()
            for state in states:
                one = {state} if piece[0] == "each" else all_states(piece[2], {state}, seen)
                other = all_states(piece[-1], {state}, seen)
                only(one == other and len(one) == 1)
                behind |= one | other
            states = behind
    return states


def is_let_by(pieces):
    """Whether there is no fault on any way."""
    seen = []
    try:
        only(all_states(pieces, {begin()}, seen) == {begin()})
    except Fault:
        return False
    return all([len(states) == 1 for states in seen])


class ToldTest(unittest.TestCase):
    def test_holes_at_all_five_places(self):
        pieces = [X, lit("<a b:"), ("hole", "a"), lit(" c=\"&00;"), ("hole", "b"), lit("\" d(x,"), ("hole", "c"),
                  lit(") e!\"w '"), ("hole", "d"), lit("' 'x'\">"), ("hole", "e"), lit("</a>"), X]
        self.assertEqual(look(pieces), [("x", "text"), ("a", "bare"), ("b", "quoted"), ("c", "row"), ("d", "said"),
                                        ("e", "text"), ("x", "text")])

    def test_no_holes(self):
        for pieces in [[], [lit("x")], [each(lit("<a/>"))], [lit("<a>"), seat(), lit("</a>")]]:
            self.assertEqual(look(pieces), [])

    def test_in_the_order_of_the_text(self):
        def hole(name):
            return ("hole", name)
        pieces = [hole("a"), either([hole("b"), each(hole("c"))], [hole("d")]),
                  each(hole("e"), seat(hole("f")), hole("g")), seat(either([hole("h")], [hole("i")]), hole("j")),
                  hole("k")]
        self.assertEqual(look(pieces), [(name, "text") for name in "abcdefghijk"])

    def test_one_hole_twice_and_holes_side_by_side(self):
        self.assertEqual(look([lit("<a b:"), X, X, lit("/>"), X]), [("x", "bare"), ("x", "bare"), ("x", "text")])

    def test_literals_side_by_side(self):
        texts = ["<", "a b", "=", "\"", "", "&", "0", "0;", "\"", "/>"]
        self.assertEqual(look([lit(text) if text else X for text in texts]), [("x", "quoted")])

    def test_told_lists_are_the_askers_own(self):
        for pieces, holes in let_by(40):
            kept = copy.deepcopy(pieces)
            look(pieces).append("mine")
            self.assertEqual(look(pieces), holes)
            self.assertEqual(pieces, kept)

    def test_pieces_of_a_deep_page(self):
        pieces = [X]
        for around in range(45):
            pieces = [lit("<a>"), [each(*pieces), either([X], pieces), seat(*pieces)][around % 3], lit("</a>")]
        self.assertEqual(look(pieces), [("x", "text")] * 16)

    def test_any_pieces_that_are_let_by(self):
        seen = {}
        for pieces, holes in let_by(400):
            self.assertEqual(look(pieces), holes)
            seen.update({place: True for name, place in holes})
        self.assertEqual(sorted(seen), ["bare", "quoted", "row", "said", "text"])


class RefusalsTest(unittest.TestCase):
    def assert_refused(self, pieces, refusal, *fields):
        kept = copy.deepcopy(pieces)
        with self.assertRaises(refusal) as caught:
            look(pieces)
        self.assertEqual(tuple(vars(caught.exception).values()), fields)
        self.assertEqual(right_look(pieces), (refusal.__name__,) + fields)
        self.assertEqual(pieces, kept)
        # what is told with a refusal is the asker's own
        lists = lists_in(tuple(vars(caught.exception).values()))
        self.assertEqual(len({id(found) for found in lists}), len(lists))
        for found in lists:
            found.append("mine")
        self.assertEqual(refused_by(look, pieces), (refusal.__name__,) + fields)

    def test_astray(self):
        self.assert_refused([lit("ab<!")], Astray, ([], 0), 3)
        self.assert_refused([lit("</a>")], Astray, ([], 0), 3)
        self.assert_refused([lit("<a>"), X, lit("x</b>")], Astray, ([], 2), 4)
        self.assert_refused([lit("<a b:"), X, lit("\"/>")], Astray, ([], 2), 0)
        self.assert_refused([lit("x"), lit("&"), lit("99;")], Astray, ([], 2), 2)

    def test_astray_behind_eaches_ifs_and_seats(self):
        self.assert_refused([each(lit("x"), X), lit("<<")], Astray, ([0], 0), 1)
        self.assert_refused([either([lit("x"), X], [lit("y")]), lit("<<")], Astray, ([0], 2), 1)
        self.assert_refused([seat(lit("x"), X), lit("<<")], Astray, ([], 4), 1)
        self.assert_refused([each(either([], []), each()), seat(either([each(X), X], []), each(X)), X, lit("<<")],
                            Astray, ([0, 0, 0, 0], 4), 1)

    def test_astray_within(self):
        self.assert_refused([X, each(X, lit("<<"))], Astray, ([1], 2), 1)
        self.assert_refused([X, either([X, lit("<<")], [])], Astray, ([0], 2), 1)
        self.assert_refused([X, either([each(X), X], [X, X, lit("<<")])], Astray, ([1], 3), 1)
        self.assert_refused([X, seat(X, lit("<<"))], Astray, ([], 3), 1)
        self.assert_refused([each(X, each(X), X, either([X], [each(lit("<<"))]))], Astray, ([1, 0, 1, 1], 2), 1)

    def test_a_seat_that_shuts_what_was_opened_outside(self):
        self.assert_refused([lit("<a>"), seat(lit("x</a>"))], Astray, ([], 2), 4)
        self.assert_refused([lit("<a>"), seat(lit("</a><a>")), lit("</a>")], Astray, ([], 2), 3)
        self.assert_refused([lit("<a "), seat(lit("b:x/>"))], Astray, ([], 2), 4)
        self.assert_refused([lit("<a b:"), seat(lit("x>"))], Astray, ([], 2), 1)
        self.assert_refused([lit("<asis>"), seat(lit("x</asis>"))], Astray, ([], 2), 7)
        self.assert_refused([lit("<a>"), seat(lit("<b>"), seat(lit("</b>")))], Astray, ([], 4), 3)

    def test_no_place(self):
        for ahead in ["<", "<a", "</", "<a ", "<a b", "<a b=", "<a b=\"\"", "<a b:~", "<a b(\\", "<a b!\"", "<a b!\"w",
                      "<a b!\"'\\", "&", "<a b=\"&", "<a b!\"'&", "<asis>", "<asis><", "<a/"]:
            self.assert_refused([lit("x"), lit(ahead), X, lit("<<")], NoPlace, "x", ([], 2))
        pieces = [lit("<a "), each(), either([], []), ("hole", "other")]
        self.assert_refused(pieces, NoPlace, "other", ([0, 0], 1))

    def test_no_place_within(self):
        self.assert_refused([lit("<asis>"), each(lit("x"), X)], NoPlace, "x", ([1], 2))
        self.assert_refused([lit("<asis>"), either([lit("x")], [X])], NoPlace, "x", ([1], 1))
        self.assert_refused([lit("<asis>"), either([X], [])], NoPlace, "x", ([0], 1))
        self.assert_refused([lit("<asis>"), seat(lit("x"), X)], NoPlace, "x", ([], 3))
        self.assert_refused([seat(lit("<asis>y")), lit("x")], Unlike, SEAT, ([], 1), ([], 2))

    def test_unlike_branches(self):
        self.assert_refused([either([lit("<a>")], [])], Unlike, ("if", "i"), ([0], 1), ([1], 0))
        self.assert_refused([either([], [lit("<a>")])], Unlike, ("if", "i"), ([0], 0), ([1], 1))
        self.assert_refused([either([lit("<a>"), X], [lit("<b>")])], Unlike, ("if", "i"), ([0], 2), ([1], 1))
        self.assert_refused([X, either([X, either([X], []), each(X)], [X, each(X), seat(each()), lit("<")])], Unlike,
                            ("if", "i"), ([0, 0, 0], 3), ([1, 0, 0], 5))
        self.assert_refused([lit("<a "), either([lit("b:")], [lit("b")])], Unlike, ("if", "i"), ([0], 2), ([1], 2))
        # states are unlike also by their word, their talk, their boxes
        self.assert_refused([lit("<"), either([lit("a")], [lit("b")])], Unlike, ("if", "i"), ([0], 2), ([1], 2))
        self.assert_refused([lit("<a b!\""), either([lit("w")], [lit("w ")])], Unlike, ("if", "i"), ([0], 2), ([1], 2))

    def test_branches_that_come_to_one_state(self):
        self.assertEqual(look([either([lit("<a>"), X], [lit("<a b:x>")]), X, lit("</a>")]), [("x", "text")] * 2)
        self.assertEqual(look([lit("<a "), either([lit("b:")], [lit("c:d")]), X, lit("/>")]), [("x", "bare")])

    def test_unlike_behind_an_each(self):
        self.assert_refused([each(lit("<a>"))], Unlike, ("each", "e"), ([0], 0), ([1], 1))
        self.assert_refused([lit("<a>"), each(X, lit("</a>"))], Unlike, ("each", "e"), ([0], 1), ([1], 3))
        self.assert_refused([X, each(either([X, X], [X]), each(X), lit("<"))], Unlike, ("each", "e"), ([0], 1),
                            ([1, 0, 0], 4))
        self.assert_refused([either([X], []), seat(X), each(lit("<"))], Unlike, ("each", "e"), ([0, 0], 4), ([0, 1], 5))

    def test_unlike_at_a_seats_end(self):
        self.assert_refused([seat(lit("<a>"))], Unlike, SEAT, ([], 1), ([], 2))
        self.assert_refused([lit("<a "), seat(lit("b:x "), lit("c:y")), lit("/>")], Unlike, SEAT, ([], 2), ([], 4))
        self.assert_refused([lit("<a>"), seat(X, each(X), either([X], []), lit("<b>"), each()), lit("</b></a>")],
                            Unlike, SEAT, ([], 2), ([0, 0, 0], 5))
        other = ("seat", "draw", "part", "", [lit("<a>")])
        self.assert_refused([seat(other)], Unlike, other[:4], ([], 2), ([], 3))
        elder = ("seat", "elder", "t", "q", [lit("<")])
        self.assert_refused([X, each(elder)], Unlike, elder[:4], ([1], 2), ([1], 3))

    def test_left_open(self):
        self.assert_refused([lit("<a>")], LeftOpen, ([], 1))
        self.assert_refused([lit("<a b=\""), X], LeftOpen, ([], 2))
        self.assert_refused([X, lit("&")], LeftOpen, ([], 2))
        self.assert_refused([each(X), lit("<a>"), either([X, each()], [X]), seat(X), each(X)], LeftOpen,
                            ([0, 0, 0, 0], 5))
        # no box is left open here, but a branch or each by itself is let by
        self.assert_refused([lit("<a>"), each(lit("<b/>")), lit("</a"), either([], [])], LeftOpen, ([0, 0], 2))

    def test_of_two_faults_the_first_in_the_order_of_the_text(self):
        self.assert_refused([lit("<"), X, lit("<")], NoPlace, "x", ([], 1))
        self.assert_refused([lit("<<"), X], Astray, ([], 0), 1)
        self.assert_refused([either([lit("<")], [lit("<<")])], Astray, ([1], 0), 1)
        self.assert_refused([either([lit("<"), X], [lit("<<")])], NoPlace, "x", ([0], 1))
        self.assert_refused([either([lit("<a>")], []), lit("<<")], Unlike, ("if", "i"), ([0], 1), ([1], 0))
        self.assert_refused([each(lit("<")), lit("<<")], Unlike, ("each", "e"), ([0], 0), ([1], 1))
        self.assert_refused([each(lit("<"), either([lit("a")], []))], Unlike, ("if", "i"), ([1, 0], 2), ([1, 1], 1))
        self.assert_refused([seat(each(lit("<")), lit("<"))], Unlike, ("each", "e"), ([0], 1), ([1], 2))
        self.assert_refused([seat(lit("<")), lit("<a>")], Unlike, SEAT, ([], 1), ([], 2))
        self.assert_refused([lit("<a>"), each(lit("<b>"))], Unlike, ("each", "e"), ([0], 1), ([1], 2))

    def test_it_is_gone_on_from_the_first_branch_and_the_state_ahead(self):
        self.assert_refused([lit("<a>"), each(lit("<b/>")), seat(lit("<c/>")), either([X], []), lit("</b>")],
                            Astray, ([0, 0], 5), 3)

    def test_any_pieces(self):
        seen = {}
        for pieces in with_faults(1200):
            kept = copy.deepcopy(pieces)
            told = refused_by(look, pieces)
            self.assertEqual(told, right_look(pieces), pieces)
            self.assertEqual(pieces, kept)
            word = told[0] if isinstance(told, tuple) else "told"
            word = told[1][0] if word == "Unlike" else word
            seen[word] = seen.get(word, 0) + 1
        self.assertEqual(sorted(seen), ["Astray", "LeftOpen", "NoPlace", "each", "if", "seat", "told"])
        self.assertGreater(min(seen.values()), 20, seen)


class ShownTest(unittest.TestCase):
    def test_the_places_show_the_fault(self):
        for pieces in with_faults(900):
            told = refused_by(look, pieces)
            if not isinstance(told, tuple):
                continue
            places = [field for field in told[1:] if isinstance(field, tuple) and isinstance(field[0], list)]
            states = [state_at(pieces, place) for place in places]
            next_things = [walked(pieces, (place[0], place[1] + 1))[place[1]:] for place in places]
            if told[0] == "Astray":
                self.assertEqual(next_things[0][0][0], "lit")
                self.assertEqual(refused_by(run, states[0], next_things[0][0][1]), ("Unread", told[2]))
            elif told[0] == "NoPlace":
                self.assertEqual(next_things[0], [("hole", told[1])])
                self.assertIsNone(place_of(states[0]))
            elif told[0] == "Unlike":
                self.assertNotEqual(states[0], states[1])
            else:
                self.assertEqual(next_things[0], [])
                self.assertFalse(is_end(states[0]))
            for place in places:
                self.assertEqual(len(walked(pieces, place)), place[1])


class LetByTest(unittest.TestCase):
    def test_one_thing_put_otherwise(self):
        for good, bad in [
                ([lit("<a>"), X, lit("</a>")], [lit("<a>"), X, lit("</b>")]),
                ([lit("<a "), either([lit("b:")], [lit("c:")]), X, lit("/>")],
                 [lit("<a "), either([lit("b:")], [lit("c(")]), X, lit("/>")]),
                ([each(lit("<a>"), X, lit("</a>"))], [each(lit("<a>"), X)]),
                ([lit("<a>"), seat(lit("<b>"), X, lit("</b>")), lit("</a>")],
                 [lit("<a>"), seat(lit("</a>"), X, lit("<a>")), lit("</a>")]),
                ([lit("<a>"), either([lit("</a><a>")], []), lit("</a>")],
                 [lit("<a>"), seat(either([lit("</a><a>")], [])), lit("</a>")]),
                ([lit("<a b("), seat(lit("x,"), X), lit(")/>")],
                 [lit("<a b("), seat(lit("x,"), X, lit(")")), lit("/>")]),
                ([lit("<a b!\"'"), X, lit("'\"/>")], [lit("<a b!\"'"), X, lit("\"/>")]),
                ([lit("<a b!\"'"), X, lit("'\"/>")], [lit("<a b!\""), X, lit("\"/>")]),
                ([X, lit("<asis></asis>")], [lit("<asis>"), X, lit("</asis>")]),
                ([lit("&27;"), X], [lit("&2"), X])]:
            self.assertIsInstance(refused_by(look, good), list)
            self.assertIsInstance(refused_by(look, bad), tuple)
            self.assertEqual((is_let_by(good), is_let_by(bad)), (True, False))

    def test_let_by_just_where_no_way_has_a_fault(self):
        seen = {True: 0, False: 0}
        for pieces in [pieces for pieces, holes in let_by(200)] + with_faults(1000):
            is_told = isinstance(refused_by(look, pieces), list)
            self.assertEqual(is_told, is_let_by(pieces), pieces)
            seen[is_told] += 1
        self.assertGreater(min(seen.values()), 200)


if __name__ == "__main__":
    unittest.main()

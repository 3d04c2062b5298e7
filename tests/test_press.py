"""Points 2, 4, 81, 82, 83 and 84: sealpress.press."""

import copy
import random
import unittest

from sealpress.errors import Astray, LeftOpen, NoKind, NoPlace, NoSign, NoValue, TooMany, Unlike
from sealpress.looker import look
from sealpress.pages import is_page, page_of, shape_of
from sealpress.places import place_of, put
from sealpress.press import events_along, filled, pressed
from sealpress.reader import read
from sealpress.steps import begin, run
from tests.to_try import ALL, flat, let_by, lists_in, made_data, made_texts, refused_by, with_faults

X, Y = ("hole", "x"), ("hole", "y")
# a hole at each of the five places, by itself and with something around it
FIVE = [("text", [X]), ("text", [("lit", "<a>"), X, ("lit", "</a>")]), ("bare", [("lit", "<a b:"), X, ("lit", "/>")]),
        ("quoted", [("lit", "<a b=\""), X, ("lit", "\"/>")]), ("row", [("lit", "<a b(,"), X, ("lit", ",)/>")]),
        ("said", [("lit", "<a b!\"w '"), X, ("lit", "' 'x'\"/>")])]


def lit(text):
    return ("lit", text)


def each(name, *pieces):
    return ("each", name, list(pieces))


def seat(*pieces):
    return ("seat", "draw", "s", "", list(pieces))


def slowly_pressed(pieces, data):
    """The text and the ledger, the place of each hole found from the text ahead of it."""
    text, ledger = "", []
    for seats, stop in flat(pieces, [data]):
        added = stop[1]
        if stop[0] == "hole":
            place = place_of(run(begin(), text)[0])
            added = put(place, stop[2])
            ledger.append((len(text), len(text) + len(added), stop[1], place))
        text += added
    return (text, ledger)


def pairs_of_data(many):
    """Laid pieces that are let by, and data for them."""
    source = random.Random(many * 3)
    return [(pieces, made_data(source, 2)) for pieces, holes in let_by(many)]


def otherwise(source, thing):
    """The same data with all texts put otherwise."""
    if isinstance(thing, dict):
        return {name: otherwise(source, thing[name]) for name in thing}
    if isinstance(thing, list):
        return [otherwise(source, row) for row in thing]
    return source.choice(made_texts(40, 20)) if isinstance(thing, str) else thing


class WayTest(unittest.TestCase):
    def assert_pressed(self, pieces, data, text):
        kept = copy.deepcopy((pieces, data))
        told = pressed(pieces, data)
        self.assertEqual(told[0], text)
        self.assertEqual(told, slowly_pressed(pieces, data))
        self.assertEqual(filled(pieces, data), read(text))
        self.assertEqual((pieces, data), kept)

    def test_literals_and_holes(self):
        self.assert_pressed([], {}, "")
        self.assert_pressed([lit("a"), lit("b"), X, lit("c"), X, Y], {"x": "1", "y": "2"}, "ab1c12")

    def test_loops_of_no_row_one_and_several(self):
        pieces = [lit("("), each("l", X, lit(",")), lit(")")]
        sixty = [str(number) for number in range(60)]
        for rows, text in [([], "()"), ([{}], "(0,)"), ([{"x": "1"}], "(1,)"),
                           ([{"x": "1"}, {}, {"x": "3"}], "(1,0,3,)"),
                           ([{"x": number} for number in sixty], "(" + ",".join(sixty) + ",)")]:
            self.assert_pressed(pieces, {"l": rows, "x": "0"}, text)

    def test_rows_are_innermost_scopes(self):
        pieces = [X, each("l", X, Y, each("m", X, Y), X), X]
        data = {"x": "0", "y": "9", "l": [{"x": "1", "m": [{"y": "2"}, {"x": "3", "y": "4"}]}, {"y": "5"}],
                "m": [{"x": "6"}]}
        self.assert_pressed(pieces, data, "0" + "19" + "12" + "34" + "1" + "05" + "65" + "0" + "0")

    def test_a_row_may_put_a_loop_and_a_choice_otherwise(self):
        pieces = [each("l", ("if", "i", [X], [lit("-")]), each("l", X)), ("if", "i", [X], [lit("-")])]
        data = {"x": "0", "i": True, "l": [{"i": False, "l": [{"x": "1"}, {}]}, {"x": "2", "l": []}]}
        self.assert_pressed(pieces, data, "-10" + "2" + "0")
        # the row has no list of its own here: the loop within is the one around it
        data = {"x": "0", "i": True, "l": [{"x": "1"}, {"x": "2"}]}
        self.assert_pressed(pieces, data, "1" + "12" + "2" + "12" + "0")

    def test_choices(self):
        pieces = [("if", "i", [X, lit("1")], [lit("2"), Y]), ("if", "j", [lit("3")], [])]
        for one, other, text in [(True, True, "a13"), (True, False, "a1"), (False, True, "2b3"), (False, False, "2b")]:
            self.assert_pressed(pieces, {"i": one, "j": other, "x": "a", "y": "b"}, text)

    def test_seats(self):
        pieces = [each("l", seat(X, seat(Y), lit("-"))), seat(), seat(X)]
        self.assert_pressed(pieces, {"x": "0", "y": "1", "l": [{"x": "2"}, {"y": "3"}]}, "21-" + "03-" + "0")

    def test_what_isnt_met_isnt_looked_at(self):
        pieces = [each("l", X, ("if", "none", [], [])), ("if", "i", [lit("a")], [Y, each("none")])]
        self.assert_pressed(pieces, {"l": [], "i": True}, "a")
        self.assert_pressed(pieces, {"l": [], "i": True, "x": 7, "y": "\t", "none": "x", "other": None}, "a")
        self.assert_pressed([each("l", lit("a"))], {"l": [{"x": None, "l": 7}, {"y": "\t"}]}, "aa")


class RefusedTest(unittest.TestCase):
    def assert_refused(self, pieces, data, refusal, *fields):
        kept = copy.deepcopy(pieces)
        for asked in [pressed, events_along, filled]:
            self.assertEqual(refused_by(asked, pieces, data), (refusal.__name__,) + fields, asked)
        self.assertEqual(pieces, kept)

    def test_values_that_are_not_there_or_of_another_kind(self):
        for pieces in [[X], [lit("a"), each("l", seat(X))], [("if", "i", [seat(X)], [])]]:
            data = {"l": [{}], "i": True}
            self.assert_refused(pieces, data, NoValue, "x")
            for value in [None, 7, True, [], {}, ["x"]]:
                self.assert_refused(pieces, dict(data, x=value), NoKind, "x")
            self.assert_refused(pieces, dict(data, x="ab%"), NoSign, 2)
        for piece, bad in [(("if", "y", [], []), "yes"), (each("y"), [{}, 7]), (each("y"), [{}] * 61),
                           (each("y"), True)]:
            self.assert_refused([lit("a"), piece], {}, NoValue, "y")
            self.assert_refused([lit("a"), piece], {"y": bad}, NoKind, "y")

    def test_the_first_thing_met(self):
        wrong = {"x": (X, ("NoValue", "x")), "y": (Y, ("NoKind", "y")), "z": (("hole", "z"), ("NoSign", 1)),
                 "i": (("if", "i", [], []), ("NoKind", "i")), "l": (each("l"), ("NoKind", "l"))}
        data = {"y": 1, "z": "a\t", "i": "x", "l": [[]], "m": [{}, {}]}
        for one, told in wrong.values():
            for other, behind in wrong.values():
                for pieces in [[one, other], [each("m", one), other], [seat(one), other], [lit("a"), seat(one, other)]]:
                    for asked in [pressed, events_along, filled]:
                        self.assertEqual(refused_by(asked, pieces, data), told)

    def test_a_later_row_is_refused_behind_an_earlier_one(self):
        pieces = [each("l", ("if", "i", [X], [Y]))]
        rows = [{"i": True, "x": "1"}, {"i": False}, {"i": "x"}]
        self.assert_refused(pieces, {"l": rows}, NoValue, "y")
        self.assert_refused(pieces, {"l": rows[:1] + rows[2:]}, NoKind, "i")
        # whether all are dicts is looked at with the loop, ahead of its rows
        self.assert_refused(pieces, {"l": rows + [None]}, NoKind, "l")

    def test_three_thousand_things_just_so(self):
        for piece, text in [(lit("a"), "a"), (X, "1"), (("if", "i", [], []), ""), (each("no"), ""), (seat(), "")]:
            data = {"x": "1", "i": True, "no": []}
            self.assertEqual(pressed([piece] * 3000, data)[0], text * 3000)
            self.assert_refused([piece] * 3001, data, TooMany)

    def test_rows_and_loops_are_counted(self):
        # one loop, fifty rows with fifty-nine literals each: 1 + 50 * 60 is one too many
        pieces = [each("l", *[lit("a")] * 59)]
        self.assert_refused(pieces, {"l": [{}] * 50}, TooMany)
        self.assertEqual(len(pressed(pieces, {"l": [{}] * 49})[0]), 49 * 59)
        self.assertEqual(len(pressed(pieces + [lit("a")] * 59, {"l": [{}] * 49})[0]), 50 * 59)
        self.assert_refused(pieces + [lit("a")] * 60, {"l": [{}] * 49}, TooMany)
        # loops in loops: a loop, and for each of fifty rows the row, a loop and fifty-eight rows, is one too many
        pieces = [each("l", each("m"))]
        self.assert_refused(pieces, {"l": [{}] * 50, "m": [{}] * 58}, TooMany)
        self.assertEqual(pressed(pieces, {"l": [{}] * 50, "m": [{}] * 57})[0], "")
        rows = [{}] * 49 + [{"m": [{}] * 57}]
        self.assertEqual(pressed(pieces, {"l": rows, "m": [{}] * 58})[0], "")
        self.assert_refused(pieces + [lit("a")], {"l": rows, "m": [{}] * 58}, TooMany)

    def test_seats_and_choices_are_counted(self):
        pieces = [seat(("if", "i", [lit("a")], [lit("b")]))] * 1000
        self.assertEqual(pressed(pieces, {"i": False})[0], "b" * 1000)
        self.assert_refused(pieces + [lit("a")], {"i": False}, TooMany)

    def test_too_many_is_ahead_of_all_else_due_there(self):
        for last in [X, Y, ("if", "i", [], []), each("l"), lit("a"), seat()]:
            data = {"y": None, "i": None, "l": None}
            self.assert_refused([lit("a")] * 3000 + [last], data, TooMany)
        self.assert_refused([lit("a")] * 2999 + [X, X], {}, NoValue, "x")
        # the three thousand and first is a row, ahead of what stands in it
        self.assert_refused([lit("a")] * 2999 + [each("l", X)], {"l": [{}]}, TooMany)
        self.assert_refused([lit("a")] * 2998 + [each("l", X)], {"l": [{}]}, TooMany)
        self.assert_refused([lit("a")] * 2997 + [each("l", X)], {"l": [{}]}, NoValue, "x")
        self.assert_refused([lit("a")] * 2999 + [each("l", X)], {"l": None}, NoKind, "l")


class PressedTest(unittest.TestCase):
    def test_refused_as_looking_is_ahead_of_the_way(self):
        for pieces, refusal in [
                ([lit("<<"), X], Astray), ([X, lit("<"), X], NoPlace), ([X, each("l", lit("<a>"))], Unlike),
                ([X, lit("<a>")], LeftOpen), ([lit("a")] * 3001 + [lit("<a>")], LeftOpen)]:
            with self.assertRaises(refusal) as caught:
                pressed(pieces, {})
            self.assertEqual((refusal.__name__,) + tuple(vars(caught.exception).values()), refused_by(look, pieces))

    def test_refused_also_where_the_way_doesnt_come_to_the_fault(self):
        pieces = [("if", "i", [lit("a")], [lit("<a>")]), each("l", lit("<"))]
        self.assertRaises(Unlike, pressed, pieces, {"i": True, "l": []})

    def test_any_pieces_are_refused_as_looking_is(self):
        many = 0
        for pieces in with_faults(300):
            told = refused_by(look, pieces)
            if isinstance(told, tuple):
                self.assertEqual(refused_by(pressed, pieces, {}), told)
                many += 1
        self.assertGreater(many, 80)

    def test_text_and_ledger(self):
        pieces = [lit("<a b:"), X, lit(" c=\""), Y, Y, lit("\">"), each("l", X, lit("<b d("), Y, lit(")/>")),
                  lit("</a>"), X]
        data = {"x": "", "y": "\")", "l": [{"x": "<"}, {"y": ""}]}
        self.assertEqual(pressed(pieces, data), (
            "<a b: c=\"&02;)&02;)\">&27;<b d(\"\\))/><b d()/></a>",
            [(5, 5, "x", "bare"), (9, 14, "y", "quoted"), (14, 19, "y", "quoted"), (21, 25, "x", "text"),
             (30, 33, "y", "row"), (36, 36, "x", "text"), (41, 41, "y", "row"), (48, 48, "x", "text")]))

    def test_each_sign_at_each_place(self):
        for place, pieces in FIVE:
            for value in list(ALL) + [ALL, "", ALL[::-1] * 2]:
                text, ledger = pressed(pieces, {"x": value})
                start = pieces.index(X) and len(pieces[0][1])
                self.assertEqual(ledger, [(start, start + len(put(place, value)), "x", place)])
                self.assertEqual(text[ledger[0][0]:ledger[0][1]], put(place, value))
                self.assertEqual(read(text), filled(pieces, {"x": value}))

    def test_any_pieces(self):
        longest = 0
        for pieces, data in pairs_of_data(300):
            kept = copy.deepcopy((pieces, data))
            told = pressed(pieces, data)
            self.assertEqual(told, slowly_pressed(pieces, data))
            self.assertEqual((pieces, data), kept)
            longest = max(longest, len(told[1]))
        self.assertGreater(longest, 20)

    def test_outside_of_the_ledger_are_the_literals(self):
        for pieces, data in pairs_of_data(120):
            text, ledger = pressed(pieces, data)
            stops = [0] + [stop for start, stop, name, place in ledger]
            starts = [start for start, stop, name, place in ledger] + [len(text)]
            outside = "".join([text[one:other] for one, other in zip(stops, starts)])
            self.assertEqual(outside, "".join([stop[1] for seats, stop in flat(pieces, [data]) if stop[0] == "lit"]))

    def test_one_hole_may_stand_at_two_places_by_its_name(self):
        pieces = [X, lit("<a b:"), X, lit("/>")]
        self.assertEqual(pressed(pieces, {"x": "<"}), ("&27;<a b:~27/>", [(0, 4, "x", "text"), (9, 12, "x", "bare")]))

    def test_told_lists_are_the_askers_own(self):
        data = {"x": "1", "l": [{"x": "2"}]}
        pieces = [X, each("l", X)]
        told = pressed(pieces, data)
        pressed(pieces, data)[1].clear()
        data["l"].append({})
        data["x"] = "3"
        self.assertEqual(told, ("12", [(0, 1, "x", "text"), (1, 2, "x", "text")]))
        self.assertEqual(pressed(pieces, data)[0], "323")


class FilledTest(unittest.TestCase):
    def test_events_along(self):
        pieces = [lit("<a b:x"), X, lit("/>"), each("l", X)]
        data = {"x": "<~", "l": [{"x": ""}, {"x": "&"}]}
        self.assertEqual(events_along(pieces, data), [
            ("box", "a"), ("attr", "b", "bare"), ("sign", "x"), ("sign", "<"), ("sign", "~"), ("in",), ("out",),
            ("sign", "&")])
        self.assertEqual(events_along([], {}), [])

    def test_literals_one_behind_the_other(self):
        self.assertEqual(events_along([lit("&"), lit("2"), lit("7;"), seat(lit("<"), lit("a/"), lit(">"))], {}),
                         [("sign", "<"), ("box", "a"), ("in",), ("out",)])

    def test_the_filled_page(self):
        pieces = [lit("<a b(x,"), X, lit(") c!\"w '"), X, lit("'\">"), X, lit("</a>")]
        value = "),'\"<"
        self.assertEqual(filled(pieces, {"x": value}), [
            ("text", ""), ("box", "a", [("b", "row", ["x", value]), ("c", "talk", [("word", "w"), ("said", value)])]),
            ("text", value), ("out",), ("text", "")])

    def test_any_pieces(self):
        for pieces, data in pairs_of_data(200):
            kept = copy.deepcopy((pieces, data))
            events = events_along(pieces, data)
            self.assertEqual(events, run(begin(), pressed(pieces, data)[0])[1])
            self.assertEqual(filled(pieces, data), page_of(events))
            self.assertTrue(is_page(filled(pieces, data)))
            for found in lists_in(filled(pieces, data)) + [events]:
                found.append("mine")
            self.assertEqual((pieces, data), kept)
            self.assertTrue(is_page(filled(pieces, data)))


class SoTest(unittest.TestCase):
    def test_the_pressed_text_is_read_to_just_the_filled_page(self):
        for pieces, data in pairs_of_data(300):
            self.assertEqual(read(pressed(pieces, data)[0]), filled(pieces, data))

    def test_the_same_ways_have_one_shape(self):
        source = random.Random(84)
        many = 0
        for pieces, data in pairs_of_data(200):
            other = otherwise(source, data)
            self.assertEqual(shape_of(read(pressed(pieces, data)[0])), shape_of(read(pressed(pieces, other)[0])))
            many += pressed(pieces, data) != pressed(pieces, other)
        self.assertGreater(many, 100)

    def test_a_value_put_otherwise_makes_another_text(self):
        texts = [""] + list(ALL) + ["~", "~0", "~00", " ", "&", "&05;", "\\", "\\\\", "aa"] + made_texts(60, 6)
        for place, pieces in FIVE:
            told = {pressed(pieces, {"x": value})[0] for value in texts}
            self.assertEqual(len(told), len(set(texts)))

    def test_one_text_put_otherwise_in_any_data(self):
        source = random.Random(85)
        many = 0
        for pieces, data in pairs_of_data(250):
            other = copy.deepcopy(data)
            scopes = [found for found in lists_in(other) if isinstance(found, dict)]
            scope, name = source.choice([(scope, name) for scope in scopes for name in "xyz" if name in scope])
            scope[name] += source.choice(ALL)
            one, two = list(flat(pieces, [data])), list(flat(pieces, [other]))
            self.assertEqual(pressed(pieces, data)[0] != pressed(pieces, other)[0], one != two)
            many += one != two
        self.assertGreater(many, 40)

    def test_outside_of_a_seat_nothing_changes(self):
        source = random.Random(86)
        many = 0
        for pieces, data in pairs_of_data(250):
            other = cut(source, pieces)
            self.assertIsInstance(refused_by(look, other), list)
            self.assertEqual(outside_text(pieces, data), outside_text(other, data))
            many += pressed(pieces, data) != pressed(other, data)
        self.assertGreater(many, 60)


def cut(source, pieces):
    """The same pieces with something else in their outermost seats."""
    own = []
    for piece in pieces:
        if piece[0] == "seat":
            own.append(piece[:4] + (source.choice([[], [X], [("if", "i", [Y], [lit("9")])]]),))
        else:
            own.append(tuple([cut(source, part) if isinstance(part, list) else part for part in piece]))
    return own


def outside_text(pieces, data):
    """What is pressed outside of seats, by the ledger and the literals of the pressed text."""
    text, ledger = pressed(pieces, data)
    values = iter([text[start:stop] for start, stop, name, place in ledger])
    parts = [(seats, next(values) if stop[0] == "hole" else stop[1]) for seats, stop in flat(pieces, [data])]
    if "".join([part for seats, part in parts]) != text:
        raise AssertionError("the parts are not the pressed text")
    return "".join([part for seats, part in parts if not seats])


if __name__ == "__main__":
    unittest.main()

"""Points 2, 70 and 71: sealpress.ways."""

import copy
import itertools
import random
import unittest

from sealpress.errors import Unread
from sealpress.steps import begin, floored, run
from sealpress.ways import state_at, walked
from tests.to_try import let_by, with_faults

A, B, X = ("lit", "a"), ("lit", "b"), ("hole", "x")
SEAT = ("seat", "block", "s", "p", [A, X])
INTO, OUT = ("into", "block", "s", "p"), ("out",)


def some_way(source, pieces):
    """Things met on a way, and for each of its turns how many things are met ahead of it."""
    things, turns = [], []
    for piece in pieces:
        inner = []
        if piece[0] in ("each", "if"):
            turn = source.randrange(2)
            turns.append((turn, len(things)))
            inner = piece[2] if turn == (piece[0] == "each") else [] if piece[0] == "each" else piece[3]
        elif piece[0] == "seat":
            things.append(("into",) + piece[1:4])
            inner = piece[4]
        else:
            things.append(piece)
        more = some_way(source, inner)
        turns += [(turn, len(things) + ahead) for turn, ahead in more[1]]
        things += more[0]
        if piece[0] == "seat":
            things.append(("out",))
    return (things, turns)


def some_ways(many):
    """Tuples of pieces, the things on a way through them, and its turns."""
    source = random.Random(many)
    all_pieces = [pieces for pieces, holes in let_by(many)] + with_faults(many)
    return [(pieces,) + some_way(source, pieces) for pieces in all_pieces]


class WalkedTest(unittest.TestCase):
    def assert_walked(self, pieces, turns, things):
        for many in range(len(things) + 3):
            self.assertEqual(walked(pieces, (turns, many)), things[:many])

    def test_literals_and_holes(self):
        self.assert_walked([], [], [])
        self.assert_walked([A], [], [A])
        self.assert_walked([A, B, B, X, A], [], [A, B, B, X, A])

    def test_seats(self):
        self.assert_walked([SEAT], [], [INTO, A, X, OUT])
        self.assert_walked([("seat", "draw", "u", "", [])], [], [("into", "draw", "u", ""), OUT])
        inner = ("seat", "elder", "t", "p", [B, SEAT, B])
        self.assert_walked([A, inner, SEAT, A], [], [
            A, ("into", "elder", "t", "p"), B, INTO, A, X, OUT, B, OUT, INTO, A, X, OUT, A])

    def test_each_turn_of_an_each(self):
        pieces = [A, ("each", "y", [B, X]), A]
        self.assert_walked(pieces, [0], [A, A])
        self.assert_walked(pieces, [1], [A, B, X, A])
        self.assert_walked([("each", "y", [])], [1], [])

    def test_each_turn_of_an_if(self):
        pieces = [A, ("if", "y", [B, B], [X]), A]
        self.assert_walked(pieces, [0], [A, B, B, A])
        self.assert_walked(pieces, [1], [A, X, A])
        self.assert_walked([("if", "y", [B], []), A], [1], [A])
        self.assert_walked([("if", "y", [], [B]), A], [0], [A])

    def test_in_one_another(self):
        pieces = [("each", "y", [A, ("if", "z", [("each", "w", [B])], [SEAT]), X]),
                  ("if", "y", [X], [("each", "z", [A])])]
        for turns, things in [([0, 0], [X]), ([0, 1, 0], []), ([0, 1, 1], [A]), ([1, 0, 0, 0], [A, X, X]),
                              ([1, 0, 1, 1, 1], [A, B, X, A]), ([1, 1, 0], [A, INTO, A, X, OUT, X, X])]:
            self.assert_walked(pieces, turns, things)

    def test_a_turn_in_a_seat(self):
        pieces = [("seat", "block", "s", "p", [("if", "y", [A], [B])]), ("each", "y", [X])]
        self.assert_walked(pieces, [1, 1], [INTO, B, OUT, X])
        self.assert_walked(pieces, [0, 0], [INTO, A, OUT])

    def test_more_turns_than_there_are_count_for_nothing(self):
        pieces = [A, ("each", "y", [B]), X]
        for more in [[0], [1], [1, 0, 1, 1, 0]]:
            self.assert_walked(pieces, [1] + more, [A, B, X])
            self.assert_walked([A, X], more, [A, X])

    def test_it_ends_where_no_turn_is_left(self):
        pieces = [A, ("each", "y", [B, ("if", "z", [], [B]), A]), X, ("if", "z", [], [])]
        self.assert_walked(pieces, [], [A])
        self.assert_walked(pieces, [1], [A, B])
        self.assert_walked(pieces, [1, 0], [A, B, A, X])
        self.assert_walked(pieces, [0], [A, X])
        self.assert_walked([("each", "y", []), A], [], [])
        self.assert_walked([("seat", "block", "s", "p", [A, ("if", "y", [], [])]), X], [], [INTO, A])

    def test_any_pieces(self):
        longest = 0
        for pieces, things, turns in some_ways(150):
            given = [turn for turn, ahead in turns]
            self.assert_walked(pieces, given, things)
            self.assert_walked(pieces, given + [1, 0, 1], things)
            for left, (turn, ahead) in enumerate(turns):
                self.assert_walked(pieces, given[:left], things[:ahead])
            longest = max(longest, len(turns))
        self.assertGreater(longest, 10)

    def test_what_is_handed_in_stays(self):
        for pieces, things, turns in some_ways(60):
            kept = copy.deepcopy(pieces)
            given = [turn for turn, ahead in turns] + [0, 1]
            place = (given, len(things))
            walked(pieces, place).append("mine")
            self.assertEqual(place, ([turn for turn, ahead in turns] + [0, 1], len(things)))
            self.assertEqual(pieces, kept)
            self.assertEqual(walked(pieces, place), things)


class StateTest(unittest.TestCase):
    def assert_states(self, pieces, turns, states):
        for many, state in enumerate(states):
            self.assertEqual(state_at(pieces, (turns, many)), state)

    def test_literals_and_holes(self):
        pieces = [("lit", "<a>x"), X, ("lit", "<b c="), ("lit", "\"y"), X, X, ("lit", "\"/></a>")]
        inside, after = ("text", "", ("a",), ""), ("quoted", "", ("a", "b"), "")
        between = ("is", "c", ("a", "b"), "")
        self.assert_states(pieces, [], [begin(), inside, inside, between, after, after, after, begin()])
        self.assert_states([], [0, 1], [begin(), begin()])

    def test_turns(self):
        pieces = [("each", "y", [("lit", "<a>")]), ("if", "z", [("lit", "<b ")], [("lit", "<")])]
        for turns, state in [([0, 0], ("gap", "", ("b",), "")), ([0, 1], ("open", "", (), "")),
                             ([1, 0], ("gap", "", ("a", "b"), "")), ([1, 1], ("open", "", ("a",), "")),
                             ([1], ("text", "", ("a",), "")), ([], begin())]:
            self.assertEqual(state_at(pieces, (turns, 9)), state)

    def test_where_a_seat_begins_and_ends(self):
        pieces = [("lit", "<a><b c=\"x"), ("seat", "draw", "u", "", [("lit", "y"), X, ("lit", "&00;")]), ("lit", "\">")]
        outside, floor, end = ("quoted", "", ("a", "b"), ""), ("quoted", "", (), ""), ("text", "", ("a", "b"), "")
        self.assert_states(pieces, [], [begin(), outside, floor, floor, floor, floor, outside, end])

    def test_seats_in_one_another(self):
        inner = ("seat", "elder", "t", "p", [("lit", "<c>"), ("lit", "</c>")])
        outer = ("seat", "block", "s", "p", [("lit", "<b>"), inner, ("lit", "</b>")])
        pieces = [("lit", "<a>"), outer, ("lit", "</a>")]
        self.assert_states(pieces, [], [
            ("text", "", opens, "") for opens in [(), ("a",), (), ("b",), (), ("c",), (), ("b",), (), ("a",), ()]])

    def test_a_seat_that_leaves_boxes_open(self):
        inner = ("seat", "elder", "t", "p", [("lit", "<c><d>")])
        pieces = [("lit", "<a>"), ("seat", "block", "s", "p", [("lit", "<b>"), inner]), ("lit", "</d>")]
        self.assert_states(pieces, [], [
            ("text", "", tuple(opens), "") for opens in ["", "a", "", "b", "", "cd", "bcd", "abcd", "abc"]])

    def test_a_seat_that_comes_to_another_mode(self):
        pieces = [("lit", "<a>"), ("seat", "block", "s", "p", [("lit", "<b c!\"'x")]), ("lit", "'")]
        self.assert_states(pieces, [], [
            begin(), ("text", "", ("a",), ""), begin(), ("talk", "", ("b",), "said"), ("talk", "", ("a", "b"), "said"),
            ("talk", "", ("a", "b"), "between")])

    def test_the_word_stays_in_a_seat(self):
        pieces = [("lit", "<a>&2"), ("seat", "block", "s", "p", [("lit", "7;")])]
        self.assert_states(pieces, [], [begin(), ("mark", "2", ("a",), ""), ("mark", "2", (), ""), begin(),
                                        ("text", "", ("a",), "")])

    def test_any_pieces(self):
        many = 0
        for pieces, things, turns in some_ways(150):
            given = [turn for turn, ahead in turns]
            # each state with all open boxes, and how many of them lie beneath the floor
            whole, floors = begin(), [0]
            for number, thing in enumerate([("hole", "x")] + things):
                if thing[0] == "lit":
                    try:
                        run((whole[0], whole[1], whole[2][floors[-1]:], whole[3]), thing[1])
                    except Unread:
                        break
                    whole = run(whole, thing[1])[0]
                elif thing[0] == "into":
                    floors.append(len(whole[2]))
                elif thing[0] == "out":
                    floors.pop()
                right = (whole[0], whole[1], whole[2][floors[-1]:], whole[3])
                self.assertEqual(state_at(pieces, (given, number)), right)
                self.assertEqual(right == floored(whole), right[2] == ())
                many += 1
        self.assertGreater(many, 2000)

    def test_what_is_handed_in_stays(self):
        for pieces, holes in let_by(40):
            kept = copy.deepcopy(pieces)
            place = ([1, 0] * 50, 40)
            state_at(pieces, place)
            self.assertEqual((pieces, place), (kept, ([1, 0] * 50, 40)))

    def test_pieces_of_a_deep_page(self):
        pieces = [("lit", "<a>"), X, ("lit", "</a>")]
        for around in itertools.islice(itertools.cycle(["each", "if", "seat"]), 45):
            pieces = [{"each": ("each", "y", pieces), "if": ("if", "y", [], pieces),
                       "seat": ("seat", "draw", "u", "", pieces)}[around]]
        things = walked(pieces, ([1] * 30, 100))
        self.assertEqual(things, [("into", "draw", "u", "")] * 15 + [("lit", "<a>"), X, ("lit", "</a>")] + [OUT] * 15)
        self.assertEqual(state_at(pieces, ([1] * 30, 17)), ("text", "", ("a",), ""))


if __name__ == "__main__":
    unittest.main()

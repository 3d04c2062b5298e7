"""Points 2 and 51: sealpress.pieces."""

import copy
import unittest

from sealpress.pieces import all_in, copied
from tests.to_try import lists_in, made_sheets


def every_kind():
    """Pieces of every kind, seats among them, in one another."""
    inner = [("lit", "a{"), ("hole", "x"), ("elder",), ("draw", "end")]
    seats = [("seat", "block", "page", "top", list(inner)),
             ("seat", "draw", "part", "", [("seat", "elder", "s", "t", [])])]
    return [("lit", "<"), ("each", "row", list(inner)), ("if", "is", list(inner), []), ("if", "is", [], list(inner)),
            ("block", "b", [("if", "c", [("each", "d", [("block", "e", list(inner))])], seats)]), ("hole", "y"),
            ("elder",), ("draw", "d")] + seats


def deep_pieces(depth):
    pieces = [("hole", "x")]
    for level in range(depth):
        around = [("each", "e", pieces), ("if", "i", [], pieces), ("block", "b", pieces),
                  ("seat", "block", "s", "b", pieces)]
        pieces = [("lit", "a"), around[level % 4]]
    return pieces


class CopiedTest(unittest.TestCase):
    def all_pieces(self):
        return [[], every_kind(), deep_pieces(12), deep_pieces(45)] + [pieces for over, pieces in made_sheets(60)]

    def test_the_same_pieces(self):
        for pieces in self.all_pieces():
            kept = copy.deepcopy(pieces)
            self.assertEqual(copied(pieces), kept)
            self.assertEqual(pieces, kept)

    def test_no_list_is_shared(self):
        for pieces in self.all_pieces():
            ones = lists_in(pieces)
            others = lists_in(copied(pieces))
            self.assertEqual(len(ones), len(others))
            self.assertEqual({id(found) for found in ones} & {id(found) for found in others}, set())

    def test_what_is_done_to_the_copy_changes_nothing(self):
        for pieces in self.all_pieces():
            kept = copy.deepcopy(pieces)
            for found in lists_in(copied(pieces)):
                found.append(("lit", "mine"))
            self.assertEqual(pieces, kept)

    def test_what_is_done_to_what_was_handed_in_changes_nothing(self):
        for pieces in self.all_pieces():
            kept = copy.deepcopy(pieces)
            own = copied(pieces)
            for found in lists_in(pieces):
                found.append(("lit", "mine"))
            self.assertEqual(own, kept)

    def test_a_list_that_stands_twice_is_copied_twice(self):
        shared = [("lit", "a")]
        own = copied([("if", "x", shared, shared), ("each", "y", shared)])
        own[0][2].append(("hole", "mine"))
        self.assertEqual(own, [("if", "x", [("lit", "a"), ("hole", "mine")], [("lit", "a")]),
                               ("each", "y", [("lit", "a")])])


class AllInTest(unittest.TestCase):
    def test_each_piece_in_the_order_of_the_text(self):
        pieces = [("if", "a", [("block", "b", [("hole", "c")]), ("lit", "d")], [("each", "e", [("draw", "f")])]),
                  ("seat", "draw", "g", "", [("elder",)]), ("lit", "h")]
        found = all_in(pieces)
        self.assertEqual([piece[:2] for piece in found], [
            ("if", "a"), ("block", "b"), ("hole", "c"), ("lit", "d"), ("each", "e"), ("draw", "f"), ("seat", "draw"),
            ("elder",), ("lit", "h")])
        self.assertEqual(all_in([]), [])


if __name__ == "__main__":
    unittest.main()

"""Points 2, 4 and 80: sealpress.values."""

import copy
import unittest

from sealpress.errors import NoKind, NoSign, NoValue
from sealpress.values import rows_of, text_of, truth_of, value_of
from tests.to_try import ALL, Unequal, made_texts

# of each kind of value what is of another kind
NO_TEXTS = [None, True, False, 0, 1, -7, 10 ** 30, [], ["x"], {}, {"x": "y"}, (), ("x",), b"x", 1.5, Unequal()]
NO_TRUTHS = [None, 0, 1, -1, "", "x", "yes", "True", [], [True], {}, {"x": True}, (), (True,), Unequal()]
NO_ROWS = [None, True, False, 0, 60, "", "x", {}, {"x": "y"}, (), ({},), ({}, {}), Unequal(), [None], [{}, "x"],
           [{}, {}, []], [True, {}], [[{}]], [{}] * 61, [{"x": "y"}] * 100, [({},)]]


class ValueTest(unittest.TestCase):
    def test_the_innermost_scope_that_has_the_name(self):
        scopes = [{"a": "1", "b": "2", "c": "3"}, {"b": "4", "c": "5"}, {"c": "6", "d": "7"}, {}]
        for name, value in [("a", "1"), ("b", "4"), ("c", "6"), ("d", "7")]:
            self.assertEqual(value_of(scopes, name), value)
            self.assertEqual(text_of(scopes, name), value)

    def test_no_value(self):
        for asked in [value_of, text_of, truth_of, rows_of]:
            for scopes in [[], [{}], [{}, {}], [{"b": "1"}, {"c": True, "d": []}], [{"b": [{"a": "1"}]}]]:
                with self.assertRaises(NoValue) as caught:
                    asked(scopes, "a")
                self.assertEqual(caught.exception.name, "a")

    def test_the_very_value_is_told(self):
        rows = [{"x": "1"}, {}]
        for value in [rows, "text", True, False, None, 7, {}, [None], Unequal()]:
            self.assertIs(value_of([{"a": "outer"}, {"a": value}, {}], "a"), value)
        self.assertIs(rows_of([{"a": rows}], "a"), rows)

    def test_an_inner_value_of_another_kind_hides_the_outer_one(self):
        for asked, good, bad in [(text_of, "x", True), (truth_of, True, "x"), (rows_of, [], "x"), (text_of, "x", None)]:
            self.assertEqual(asked([{"a": bad}, {"a": good}], "a"), good)
            self.assertRaises(NoKind, asked, [{"a": good}, {"a": bad}], "a")

    def test_what_is_handed_in_stays(self):
        scopes = [{"a": "1", "l": [{"x": "y"}]}, {"b": True}]
        kept = copy.deepcopy(scopes)
        for asked, name in [(value_of, "l"), (text_of, "a"), (truth_of, "b"), (rows_of, "l")]:
            asked(scopes, name)
        self.assertEqual(scopes, kept)


class KindsTest(unittest.TestCase):
    def assert_no_kind(self, asked, things):
        for number, thing in enumerate(things):
            for scopes in [[{"abc": thing}], [{"abc": "x"}, {"abc": thing}, {}]]:
                with self.assertRaises(NoKind) as caught:
                    asked(scopes, "abc")
                self.assertEqual(caught.exception.name, "abc", number)

    def test_a_hole_wants_a_text(self):
        for text in ["", "x", ALL, ALL * 21] + made_texts(30, 40):
            self.assertEqual(text_of([{"a": text}], "a"), text)
        self.assert_no_kind(text_of, NO_TEXTS)

    def test_a_choice_wants_a_truth(self):
        self.assertIs(truth_of([{"a": True}], "a"), True)
        self.assertIs(truth_of([{"a": False}], "a"), False)
        self.assert_no_kind(truth_of, NO_TRUTHS)

    def test_a_loop_wants_a_list_of_at_most_sixty_dicts(self):
        for rows in [[], [{}], [{"x": None}, {"y": [[]]}], [{}] * 60]:
            self.assertEqual(rows_of([{"a": rows}], "a"), rows)
        self.assert_no_kind(rows_of, NO_ROWS)

    def test_a_sign_that_is_none(self):
        for text, at in [("\t", 0), ("ab\n", 2), ("%", 0), ("x%\t", 1), (ALL + "\x7f", 94), ("x" * 2000 + "\r", 2000)]:
            with self.assertRaises(NoSign) as caught:
                text_of([{"a": text}], "a")
            self.assertEqual(caught.exception.at, at)
            # a choice and a loop want no text at all
            self.assertRaises(NoKind, truth_of, [{"a": text}], "a")
            self.assertRaises(NoKind, rows_of, [{"a": text}], "a")
            # and it is told as it is where nothing is wanted
            self.assertEqual(value_of([{"a": text}], "a"), text)


if __name__ == "__main__":
    unittest.main()

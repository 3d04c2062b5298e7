"""Points 2, 20 and 26: sealpress.steps."""

import random
import unittest

from sealpress.errors import Unread
from sealpress.steps import begin, floored, is_end, run, step
from tests.to_try import ALL, WHOLE, made_texts, some_states, walk

MODES = sorted("""text open name slash shut gap attr is bang bare code row stroke quoted done talk mark qmark tmark
asis""".split())


def outcome(state, text):
    """What run tells of a text, or the place at which it refuses."""
    try:
        return run(state, text)
    except Unread as refusal:
        return refusal.at


def stepped(state, text):
    """What run is to tell, by steps alone."""
    events = []
    for at, sign in enumerate(text):
        answer = step(state, sign)
        if answer is None:
            return at
        state = answer[0]
        events += answer[1]
    return (state, events)


class SomeStatesTest(unittest.TestCase):
    def test_all_modes_and_talks_are_tried(self):
        states = some_states()
        self.assertEqual(sorted({state[0] for state in states}), MODES)
        talks = ["between", "said", "stroke", "word"]
        for mode in ["talk", "tmark"]:
            self.assertEqual(sorted({state[3] for state in states if state[0] == mode}), talks)


class BeginTest(unittest.TestCase):
    def test_the_beginning(self):
        self.assertEqual(begin(), ("text", "", (), ""))

    def test_is_end_at_the_beginning_alone(self):
        self.assertIs(is_end(begin()), True)
        for state in some_states() + [("text", "", ("a",), ""), ("asis", "", (), ""), ("done", "", (), "")]:
            self.assertIs(is_end(state), state == ("text", "", (), ""))

    def test_is_end_behind_whole_texts_and_not_within_boxes(self):
        for text in WHOLE:
            self.assertIs(is_end(run(begin(), text)[0]), True, text)
        for text in ["<", "&", "&2", "<a", "<a>", "<a/", "<a></", "<a></a", "<a ", "<a b:", "<asis>", "<a><b></b>"]:
            self.assertIs(is_end(run(begin(), text)[0]), False, text)


class RunTest(unittest.TestCase):
    def test_no_signs(self):
        for state in some_states():
            self.assertEqual(run(state, ""), (state, []))

    def test_run_tells_what_all_steps_tell(self):
        source = random.Random(3)
        for state in some_states()[::4]:
            for text in [walk(source, state, 30)] + made_texts(3, 30):
                self.assertEqual(outcome(state, text), stepped(state, text))

    def test_unread_at_the_first_sign_that_cant_stand(self):
        for text, at in [("<1", 1), ("< ", 1), ("a<a>b</b>", 8), ("ab&xy", 3), ("<a  ", 3), ("<a b:X", 5),
                         ("<a b='", 5), ("</a>", 3), ("<a/ ", 3), ("<a b!\"X", 6), ("<a b!\"'x\"", 8), ("&94;", 3)]:
            self.assertEqual(outcome(begin(), text), at, text)
            self.assertEqual(outcome(begin(), text + "<<"), at, text)

    def test_unread_in_a_later_piece_is_at_its_place_there(self):
        state = run(begin(), "abc<a>")[0]
        self.assertEqual(outcome(state, "de</b>"), 5)

    def test_cut_at_any_place(self):
        source = random.Random(5)
        for text in WHOLE + [walk(source, begin(), 60) for number in range(40)]:
            whole = run(begin(), text)
            for cut in range(len(text) + 1):
                state, events = run(begin(), text[:cut])
                behind, more = run(state, text[cut:])
                self.assertEqual((behind, events + more), whole)

    def test_long_texts(self):
        self.assertEqual(run(begin(), "x" * 9000), (begin(), [("sign", "x")] * 9000))
        self.assertEqual(run(begin(), "<a/>" * 3000), (begin(), [("box", "a"), ("in",), ("out",)] * 3000))
        deep = run(begin(), "<a>" * 2000)
        self.assertEqual(deep, (("text", "", ("a",) * 2000, ""), [("box", "a"), ("in",)] * 2000))
        self.assertEqual(run(deep[0], "</a>" * 2000), (begin(), [("out",)] * 2000))
        self.assertEqual(outcome(begin(), "x" * 9000 + "<<"), 9001)
        self.assertEqual(outcome(begin(), "<a>" * 2000 + "</a>" * 2001), 14003)

    def test_the_told_events_are_the_askers_own(self):
        state, events = run(begin(), "<a>x")
        kept = list(events)
        more = run(state, "</a>")[1]
        more.append("mine")
        events.append("mine")
        self.assertEqual(run(begin(), "<a>x"), (state, kept))
        self.assertEqual(run(state, "</a>"), (begin(), [("out",)]))
        self.assertEqual(run(begin(), ""), (begin(), []))

    def test_a_whole_text_has_as_many_boxes_as_outs(self):
        source = random.Random(11)
        wholes = list(WHOLE)
        for number in range(200):
            text = walk(source, begin(), 25)
            wholes.append(text)
        many = 0
        for text in wholes:
            state, events = run(begin(), text)
            if is_end(state):
                boxes = [event for event in events if event[0] == "box"]
                self.assertEqual(len(boxes), events.count(("out",)))
                self.assertEqual(len(boxes), events.count(("in",)))
                many += 1
        self.assertGreaterEqual(many, len(WHOLE))


class FlooredTest(unittest.TestCase):
    def test_the_open_boxes_alone_are_put_aside(self):
        self.assertEqual(floored(("text", "", ("a", "b"), "")), ("text", "", (), ""))
        self.assertEqual(floored(("shut", "ab", ("a",), "")), ("shut", "ab", (), ""))
        self.assertEqual(floored(("tmark", "2", ("a",), "said")), ("tmark", "2", (), "said"))
        for state in some_states():
            self.assertEqual(floored(state), (state[0], state[1], (), state[3]))
            self.assertEqual(floored(floored(state)), floored(state))

    def test_run_alike_with_open_boxes_beneath(self):
        source = random.Random(13)
        for state in some_states():
            floor = floored(state)
            text = walk(source, floor, 25)
            behind, events = run(floor, text)
            for beneath in [("a",), ("asis",), ("c", "b", "abcdefgh"), state[2]]:
                above = (state[0], state[1], beneath, state[3])
                wanted = (behind[0], behind[1], beneath + behind[2], behind[3])
                self.assertEqual(run(above, text), (wanted, events), (floor, text, beneath))

    def test_a_box_beneath_is_not_shut_from_the_floor(self):
        state = run(begin(), "<a>")[0]
        self.assertEqual(outcome(floored(state), "x</a>"), 4)
        self.assertEqual(outcome(floored(state), "<a></a></a>"), 10)
        self.assertEqual(outcome(state, "x</a>"), (begin(), [("sign", "x"), ("out",)]))


if __name__ == "__main__":
    unittest.main()

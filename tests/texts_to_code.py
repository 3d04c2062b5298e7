"""Texts that the tests of all three codes try."""

import random

ALL = "".join([chr(number) for number in range(32, 127) if number != 37])


def made_texts(many, longest):
    """Some texts of all signs, the same ones at each run."""
    source = random.Random(many * 10007 + longest)
    texts = []
    for number in range(many):
        # few unlike signs in a text, so that those that matter come side by side
        signs = source.choice([ALL, "&;0123456789", "\\,)'a", "~0123456789az-", "<>&\\~\""])
        texts.append("".join([source.choice(signs) for place in range(source.randrange(longest + 1))]))
    return texts


def long_texts():
    """Texts of some 2000 signs."""
    ones = [sign * 2000 for sign in "&\\~;0a <"]
    return ones + [(ALL * 22)[:2000], "&05;" * 500, "~00" * 666, "\\\\" * 1000] + made_texts(5, 2000)


def short_texts(signs, longest):
    """All texts of these signs, up to this length."""
    texts = [""]
    last = [""]
    for length in range(longest):
        last = [text + sign for text in last for sign in signs]
        texts.extend(last)
    return texts

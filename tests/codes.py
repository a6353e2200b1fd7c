"""Coded units that the tests share: one of all sorts of instructions, and some that come by chance."""

from onetrace.coded import Coded
from onetrace.errors import NoUnit

CODE = (
    ("set", "c", 3), ("copy", "x", "a"), ("plus", "y", "b"), ("times", "c", 96), ("push", "c"), ("pop", "h"),
    ("go", 7), ("pick", (("left", 8), ("right", 13), ("up", 0))), ("take", "d"), ("out", "d"),
    ("ask", "lib", "get", 2, 12), ("ret",), ("fail", "lost"), ("ask", "lib", "put", 0, 11),
)


def coded_with(*code, hidden=2, many=2, prime=97):
    """A unit of one deed of this code."""
    return Coded(hidden, (("main", many, code),), prime=prime)


def whole_code():
    """A unit with each sort of instruction, in two deeds."""
    return Coded(2, (("main", 2, CODE), ("add", 1, (("plus", "x", "a"), ("copy", "a", "x"), ("ret",)))))


def some_step(chance, places, p, many):
    def place():
        return chance.choice(places)

    def to():
        return chance.randrange(many)

    kind = chance.choice((
        "set", "copy", "plus", "plus", "times", "push", "push", "pop", "pop", "go", "pick", "take", "out", "ask", "ret",
        "fail"))
    if kind in ("set", "times"):
        return kind, place(), chance.randrange(p)
    if kind in ("copy", "plus"):
        return kind, place(), place()
    if kind == "go":
        return kind, to()
    if kind == "pick":
        words = sorted(chance.sample(["go", "left", "on", "pick", "up"], chance.randint(1, 3)))
        return kind, tuple((word, to()) for word in words)
    if kind == "ask":
        deed = chance.choice(["end", "get", "put"])
        return kind, "lib", deed, ["end", "get", "put"].index(deed), to()
    if kind == "ret":
        return (kind,)
    return (kind, "lost") if kind == "fail" else (kind, place())


def some_coded(chance, longest=9):
    """A unit that comes by chance."""
    while True:
        p = chance.choice((2, 97, 997))
        hidden = chance.randint(0, 3)
        places = ["a", "b", "c", "h", *"xyz"[:hidden]]
        deeds = []
        for name in chance.sample(["end", "add", "main", "cells"], chance.randint(1, 4)):
            many = chance.randint(0, longest)
            deeds.append((name, chance.randint(0, 3), tuple(some_step(chance, places, p, many) for _ in range(many))))
        try:
            return Coded(hidden, tuple(deeds), prime=p)
        except NoUnit:
            continue

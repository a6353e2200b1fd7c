"""What the tests share: things of all kinds, and ways to spoil a right one."""

import copy
import random


def nested(depth, make):
    thing = 0
    for _ in range(depth):
        thing = make(thing)
    return thing


# things that are right at no place of a form, a row, a flow, a unit or a letter
WRONG = [
    None, True, False, [], [0], ["x"], [("x", 1)], {}, {"x": 1}, {0: ()}, -1, -10 ** 9, 10 ** 9,
    "A", "a b", " x", "x ", "1x", ".x", "x_", "-", "!", "\n", "a" * 41, (None,), (True,), ({},), ([],),
    nested(29, lambda thing: (thing,)), nested(30, lambda thing: [thing]),
    nested(29, lambda thing: {"x": thing}),
]

# whatever may be handed in where anything may
THINGS = WRONG + [
    0, 1, 2, 3, 96, 97, 997, "", "x", "x.y", "name", "abcdefgh", "abcdefghi", "serve", "let", (), (0,), (0, ()),
    ("x", 1), (0, (("x", 1),)), ((0, 1), (1, 0)), ("serve", ()), ("call",),
]


def spoiled(thing, wrong):
    """Each thing that is this one with one thing in it, or it itself, exchanged for a wrong one."""
    for other in wrong:
        yield other
    if isinstance(thing, tuple):
        yield list(thing)
        for at, inner in enumerate(thing):
            for other in spoiled(inner, wrong):
                yield thing[:at] + (other,) + thing[at + 1:]


def resized(thing):
    """Each thing that is this one with a thing in a tuple left out, or standing twice."""
    if isinstance(thing, tuple):
        yield thing + (0,)
        for at, inner in enumerate(thing):
            yield thing[:at] + thing[at + 1:]
            yield thing[:at + 1] + thing[at:]
            for other in resized(inner):
                yield thing[:at] + (other,) + thing[at + 1:]


def same(one, other):
    """Whether two things are equal and of the same kinds throughout."""
    if type(one) is not type(other):
        return False
    if isinstance(one, (list, tuple)):
        return len(one) == len(other) and all(same(a, b) for a, b in zip(one, other))
    if isinstance(one, dict):
        return list(one) == list(other) and all(same(one[key], other[key]) for key in one)
    return one == other


def kept(function, *things, **named):
    """What a function answers, with a look whether what it got stayed as it was."""
    ahead = copy.deepcopy((things, named))
    answer = function(*things, **named)
    assert same((things, named), ahead), "what was handed in was changed"
    assert same(function(*things, **named), answer), "another answer to the same"
    return answer


def some(seed):
    """Numbers that come the same in each run."""
    return random.Random(seed)

"""Written units that the tests share: one of all sorts of rows, and some that come by chance."""

from onetrace.errors import NoUnit
from onetrace.written import Written

X = (0, (("x", 1),))
ONE = (1, ())
ROWS = {
    "let": ("let", "x", (3, (("a", 2), ("y", 96)))),
    "take": ("take", "c"),
    "out": ("out", (0, (("b", 1), ("y", 5)))),
    "pick": ("pick", (("left", (("out", X), ("take", "x"))), ("right", ()), ("up", (("return", ONE),)))),
    "loop": ("loop", (("add", (("let", "c", X),)), ("rest", ())), "stop"),
    "ask": ("ask", "x", "lib", "get", (X, (0, (("b", 1),))), (("out", ONE), ("fail", "lost"))),
    "plain": ("ask", "c", "lib", "put", (), ()),
    "return": ("return", (0, (("x", 1), ("y", 1)))),
    "fail": ("fail", "empty"),
}
HIDDEN = ("x", "y")


def unit_with(*rows, hidden=HIDDEN, params=("a", "b"), prime=97):
    """A unit of one deed of these rows."""
    return Written(hidden, (("main", params, rows),), prime=prime)


def whole_unit():
    """A unit with each sort of row, in two deeds."""
    rows = tuple(ROWS.values())
    return Written(HIDDEN, (("main", ("a", "b"), rows[:4]), ("rest", ("b",), rows[4:])))


def some_form(chance, places, p):
    terms = sorted(chance.sample(places, chance.randint(0, min(3, len(places)))))
    return chance.randrange(p), tuple((place, chance.randrange(1, p)) for place in terms)


def some_ways(chance, names, p, around):
    words = sorted(chance.sample(["go", "left", "on", "pick", "up"], chance.randint(1, 3)))
    return tuple((word, some_rows(chance, names, p, around + 1)) for word in words)


def some_row(chance, names, p, around):
    kinds = ["let", "take", "out", "ask", "return", "fail"] + (["pick", "loop", "fault"] if around < 3 else [])
    kind = chance.choice(kinds)
    name = chance.choice(names)
    if kind == "let":
        return kind, name, some_form(chance, names, p)
    if kind == "take":
        return kind, name
    if kind == "pick":
        return kind, some_ways(chance, names, p, around)
    if kind == "loop":
        return kind, some_ways(chance, names, p, around), chance.choice(["end", "stop", "way"])
    if kind in ("ask", "fault"):
        deed = chance.choice(["end", "get", "put"])
        forms = tuple(some_form(chance, names, p) for _ in range(len(deed) - 2 + (deed == "put")))
        return "ask", name, "lib", deed, forms, some_rows(chance, names, p, around + 1) if kind == "fault" else ()
    return (kind, "lost") if kind == "fail" else (kind, some_form(chance, names, p))


def some_rows(chance, names, p, around):
    return tuple(some_row(chance, names, p, around) for _ in range(chance.randint(0, 4 - around)))


def some_unit(chance):
    """A unit that comes by chance."""
    while True:
        p = chance.choice((2, 97, 997))
        hidden = tuple(chance.sample(["x", "y", "deed"], chance.randint(0, 3)))
        deeds = []
        for name in chance.sample(["end", "add", "main", "hidden"], chance.randint(1, 4)):
            variables = ["a", "b", "let", "prime"]
            params = tuple(chance.sample(variables, chance.randint(0, 3)))
            deeds.append((name, params, some_rows(chance, [*hidden, *variables], p, 0)))
        try:
            return Written(hidden, tuple(deeds), prime=p)
        except NoUnit:
            continue


def some_long_rows(chance, names, p, around, left):
    """Rows of which most are done, in all at most as many as left has; left is what then may come."""
    rows = []
    for _ in range(chance.randint(1, 5)):
        if left[0] == 0:
            break
        left[0] -= 1
        kind = chance.choice(("let", "let", "take", "out", "ask", "pick", "loop", "fault", "end"))
        name = chance.choice(names)
        if kind in ("pick", "loop", "fault") and around == 3:
            kind = "let"
        if kind in ("pick", "loop"):
            words = sorted(chance.sample(["go", "left", "on", "pick", "up"], chance.randint(1, 4)))
            ways = tuple((word, some_long_rows(chance, names, p, around + 1, left)) for word in words)
            rows.append((kind, ways) if kind == "pick" else (kind, ways, chance.choice(["end", "stop", "way"])))
        elif kind in ("ask", "fault"):
            inner = some_long_rows(chance, names, p, around + 1, left) if kind == "fault" else ()
            deed = chance.choice(["end", "get", "put"])
            forms = tuple(some_form(chance, names, p) for _ in range(["end", "get", "put"].index(deed) + 1))
            rows.append(("ask", name, "lib", deed, forms, inner))
        elif kind == "end":
            if chance.random() < 0.3:
                rows.append(chance.choice([("return", some_form(chance, names, p)), ("fail", "lost")]))
        elif kind == "take":
            rows.append((kind, name))
        else:
            form = chance.choice([some_form(chance, names, p), (0, ((chance.choice(names), 1),)), (chance.randrange(p), ())])
            rows.append((kind, name, form) if kind == "let" else (kind, form))
    return tuple(rows)


def some_long_unit(chance, p=None, deeds=None):
    """A unit that comes by chance, most of whose rows are done."""
    while True:
        prime = p or chance.choice((2, 3, 97, 997))
        hidden = tuple(chance.sample(["x", "y", "deed"], chance.randint(0, 3)))
        variables = chance.sample(["a", "b", "let", "prime"], 4)
        told = []
        for name, many in deeds or [(name, chance.randint(0, 3)) for name in chance.sample(["end", "add", "main"], chance.randint(1, 3))]:
            rows = some_long_rows(chance, [*hidden, *variables], prime, 0, [chance.randint(1, 16)])
            told.append((name, tuple(variables[:many]), rows))
        try:
            return Written(hidden, tuple(told), prime=prime)
        except NoUnit:
            continue

"""Second, plain ways to judge papers, and ways to make others of them, for the tests. For small primes alone."""

import itertools

from flowmade import due_of, letters_at, plain_on


def product_of(row, state, p):
    return sum(n * m for n, m in zip(row, state)) % p


def sums_of(rows, width, p):
    """All sums of multiples of rows."""
    found = {(0,) * width}
    for row in rows:
        found = {tuple((n + k * m) % p for n, m in zip(old, row)) for old in found for k in range(p)}
    return found


def states_of(rows, width, p):
    """All states at which rows are nought."""
    return [(1, *held) for held in itertools.product(range(p), repeat=width - 1)
            if not any(product_of(row, (1, *held), p) for row in rows)]


def told_at(flow, number, held):
    """What a stopping step tells, with what its places hold."""
    p, held, step = flow.prime(), dict(zip(flow.places(), held)), flow.steps()[number]

    def now(form):
        return (form[0] + sum(k * held[place] for place, k in form[1])) % p

    if step[0] in ("out", "done"):
        return step[0], now(step[1])
    if step[0] == "ask":
        return *step[:3], tuple(map(now, step[3]))
    return step if step[0] == "fail" else (*due_of(flow, number), flow.deeds() if number == 0 else None)


def led_at_once(flow, number, held):
    """The stopping step come to from an out, done or fail, and what is held there."""
    p, held, step = flow.prime(), dict(zip(flow.places(), held)), flow.steps()[number]
    at = step[2] if step[0] == "out" else 0
    while flow.steps()[at][0] == "move":
        come = {place: (form[0] + sum(k * held[other] for other, k in form[1])) % p
                for place, form in flow.steps()[at][1]}
        held.update(come)
        at = flow.steps()[at][2]
    return at, tuple(held.values())


def nexts_of(flow, number, held):
    """The stopping steps come to behind each letter, or at once."""
    if flow.steps()[number][0] in ("out", "done", "fail"):
        return [led_at_once(flow, number, held)]
    return [plain_on(flow, number, held, letter)[1][0] for letter in letters_at(flow, number)]


def plain_is_paper(one, other, paper):
    """Whether a dict of pairs of stopping steps and rows is a paper: by all states there can be."""
    p, middle = one.prime(), 1 + len(one.places())
    width = middle + len(other.places())
    begin = (1, *(0,) * (width - 1))
    if (0, 0) not in paper or any(product_of(row, begin, p) for row in paper[0, 0]):
        return False
    for (number, other_number), rows in paper.items():
        for state in states_of(rows, width, p):
            here, there = (number, state[1:middle]), (other_number, state[middle:])
            if told_at(one, *here) != told_at(other, *there):
                return False
            for (to, held), (other_to, other_held) in zip(nexts_of(one, *here), nexts_of(other, *there)):
                come = (1, *held, *other_held)
                if (to, other_to) not in paper or any(product_of(row, come, p) for row in paper[to, other_to]):
                    return False
    return True


def stops_of(flow):
    return [number for number, step in enumerate(flow.steps()) if step[0] != "move"]


def rewritten_rows(chance, rows, p):
    """Rows from which just the same follows: mixed, multiplied, summed, told twice."""
    rows = list(rows)
    for _ in range(3 if rows else 0):
        at, k = chance.randrange(len(rows)), chance.randrange(len(rows))
        n = chance.randrange(1, p)
        if at == k:
            rows[at] = tuple(n * m % p for m in rows[at])
        else:
            rows[at] = tuple((m + n * other) % p for m, other in zip(rows[at], rows[k]))
    return tuple(chance.sample(rows + rows[:1], len(rows) + len(rows[:1])))


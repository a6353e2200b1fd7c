"""Flows that the tests share: some that come by chance, ways to make alike ones of them, and plain runs."""

import itertools

from onetrace.errors import NoFlow
from onetrace.flows import Flow
from onetrace.numbers import inverse


def plain_run(flow, letters, most):
    """The same by another way: ("run", events, due, number, dict), ("letter", at) or ("long",)."""
    events, number, held, left = [], 0, dict.fromkeys(flow.places(), 0), list(letters)
    p = flow.prime()

    def now(form):
        return (form[0] + sum(k * held[place] for place, k in form[1])) % p

    while True:
        kind, *things = flow.steps()[number]
        if kind == "ask":
            events.append(("ask", things[0], things[1], tuple(now(form) for form in things[2])))
        if len(events) > most:
            return ("long",)
        if kind in ("serve", "pick", "take", "ask"):
            due = {"serve": ("call",), "take": ("take",), "ask": ("ask",)}.get(kind)
            due = due or ("pick", tuple(word for word, _ in things[0]))
            if not left:
                return "run", events, due, number, held
            letter, at = left.pop(0), len(letters) - len(left) - 1
            is_number = type(letter) is int and 0 <= letter < p
            puts = {}
            if kind == "serve":
                ways = {(deed, len(params)): (params, to) for deed, params, to in things[0]}
                if (type(letter) is not tuple or len(letter) != 2 or type(letter[0]) is not str
                        or type(letter[1]) is not tuple or (letter[0], len(letter[1])) not in ways
                        or any(type(n) is not int or not 0 <= n < p for n in letter[1])):
                    return "letter", at
                params, number = ways[letter[0], len(letter[1])]
                puts = dict(zip(params, letter[1]))
                events.append(("call", *letter))
            elif kind == "pick":
                if type(letter) is not str or letter not in due[1]:
                    return "letter", at
                number = dict(things[0])[letter]
                events.append(("pick", letter))
            elif kind == "ask" and letter == "!":
                number = things[5]
                events.append(("fault",))
            elif not is_number:
                return "letter", at
            else:
                puts = {things[3 if kind == "ask" else 0]: letter}
                number = things[4 if kind == "ask" else 1]
                events.append(("answer" if kind == "ask" else "take", letter))
            puts.pop("", None)
            held.update(puts)
        elif kind == "move":
            held.update([(place, now(form)) for place, form in things[0]])
            number = things[1]
        elif kind == "out":
            events.append(("out", now(things[0])))
            number = things[1]
        else:
            events.append((kind, now(things[0]) if kind == "done" else things[0]))
            number = 0
        if len(events) > most:
            return ("long",)


def some_form(chance, places, p):
    terms = sorted(chance.sample(places, chance.randint(0, len(places))))
    return chance.randrange(p), tuple((place, chance.randrange(1, p)) for place in terms)


def some_step(chance, places, p, many):
    def to():
        return chance.randrange(1, many)

    def goal():
        return chance.choice([*places, ""])

    kind = chance.choice(("move", "move", "pick", "take", "out", "ask", "done", "fail"))
    if kind == "move":
        picked = chance.sample(places, chance.randint(0, len(places)))
        return kind, tuple((place, some_form(chance, places, p)) for place in picked), to()
    if kind == "pick":
        return kind, tuple((word, to()) for word in sorted(chance.sample(["go", "on", "up"], chance.randint(1, 3))))
    if kind == "take":
        return kind, goal(), to()
    if kind == "out":
        return kind, some_form(chance, places, p), to()
    if kind == "ask":
        forms = tuple(some_form(chance, places, p) for _ in range(chance.randint(0, 3)))
        return kind, chance.choice(("lib", "box")), chance.choice(("get", "put")), forms, goal(), to(), to()
    return (kind, some_form(chance, places, p)) if kind == "done" else (kind, "lost")


def some_flow(chance):
    while True:
        p = chance.choice((2, 3, 97))
        places = chance.sample(["x", "y", "a.b"], chance.randint(0, 3))
        many = chance.randint(2, 9)
        ways = tuple(
            (deed, tuple(chance.sample(places, chance.randint(0, len(places)))) or ("",) * chance.randint(0, 3),
             chance.randrange(1, many)) for deed in sorted(chance.sample(["add", "get", "put"], chance.randint(1, 3))))
        steps = (("serve", ways), *(some_step(chance, places, p, many) for _ in range(many - 1)))
        try:
            return Flow(tuple(places), steps, prime=p)
        except NoFlow:
            continue


def some_letters(chance, flow, many):
    """Letters that are due, one behind another."""
    letters = []
    p = flow.prime()
    for _ in range(many):
        due = plain_run(flow, letters, 10 ** 6)[2]
        if due == ("call",):
            deed, numbers = chance.choice(flow.deeds())
            letters.append((deed, tuple(chance.randrange(p) for _ in range(numbers))))
        elif due[0] == "pick":
            letters.append(chance.choice(due[1]))
        else:
            letters.append("!" if due == ("ask",) and chance.random() < 0.3 else chance.randrange(p))
    return letters


def some_kin(chance, primes=(2, 3), most=7):
    """A flow of more than one stopping step come by, with deeds `add` of one number and `get`."""
    while True:
        p = chance.choice(primes)
        places = chance.sample(["x", "y"], chance.randint(1, 2))
        many = chance.randint(3, most)
        ways = (("add", (chance.choice([*places, ""]),), chance.randrange(1, many)), ("get", (), chance.randrange(1, many)))
        steps = (("serve", ways), *(some_step(chance, places, p, many) for _ in range(many - 1)))
        try:
            flow = Flow(tuple(places), steps, prime=p)
        except NoFlow:
            continue
        if len(reached(flow)) > 2:
            return flow


def goals_of(step):
    """All numbers of steps that a step tells, in order."""
    kind = step[0]
    if kind in ("serve", "pick"):
        return [way[-1] for way in step[1]]
    return list(step[-2:]) if kind == "ask" else [step[-1]] if kind in ("move", "take", "out") else []


def with_goals(step, goals):
    kind = step[0]
    if kind in ("serve", "pick"):
        return kind, tuple((*way[:-1], to) for way, to in zip(step[1], goals))
    return (*step[:len(step) - len(goals)], *goals)


def mapped(step, place_of, form_of):
    """A step with its places and forms exchanged."""
    kind, *things = step
    if kind == "serve":
        return kind, tuple((deed, tuple(map(place_of, params)), to) for deed, params, to in things[0])
    if kind == "move":
        return kind, tuple((place_of(place), form_of(form)) for place, form in things[0]), things[1]
    if kind == "take":
        return kind, place_of(things[0]), things[1]
    if kind == "ask":
        return (kind, *things[:2], tuple(map(form_of, things[2])), place_of(things[3]), *things[4:])
    return (kind, form_of(things[0]), *things[1:]) if kind in ("out", "done") else step


def reached(flow):
    """The stopping steps that a flow comes by, as a dict to how they are come to."""
    found, waiting = {}, [0]
    while waiting:
        number = waiting.pop()
        if number not in found:
            found[number] = True
            step = flow.steps()[number]
            waiting.extend(goals_of(step) or ([0] if step[0] in ("done", "fail") else []))
    return [number for number in found if flow.steps()[number][0] != "move"]


def mixed(chance, flow):
    """An alike flow: places with other names and in another order, steps in another order."""
    order = [0, *chance.sample(range(1, len(flow)), len(flow) - 1)]
    known = ["x", "y", "a.b", *(f"q{at}" for at in range(40))]
    names = dict(zip(flow.places(), chance.sample(known, len(flow.places()))))
    names[""] = ""

    def form_of(form):
        return form[0], tuple(sorted((names[place], k) for place, k in form[1]))

    steps = []
    for number in order:
        step = mapped(flow.steps()[number], names.get, form_of)
        steps.append(with_goals(step, [order.index(to) for to in goals_of(step)]))
    places = [names[place] for place in flow.places()]
    return Flow(tuple(chance.sample(places, len(places))), tuple(steps), prime=flow.prime())


def doubled(chance, flow):
    """An alike flow: one step stands twice, and some go to the one, some to the other."""
    number = chance.randrange(1, len(flow))
    steps = list(flow.steps()) + [flow.steps()[number]]
    twins = (number, len(flow))
    for at, step in enumerate(steps):
        goals = [chance.choice(twins) if to == number else to for to in goals_of(step)]
        steps[at] = with_goals(step, goals)
    try:
        return Flow(flow.places(), tuple(steps), prime=flow.prime())
    except NoFlow:
        return flow


def delayed(chance, flow):
    """An alike flow: with a place more, that is put and kept but never told, and moves between."""
    p = flow.prime()
    more = "more"
    steps = list(flow.steps())
    for at in range(len(flow)):
        goals = goals_of(steps[at])
        for k in range(len(goals)):
            if chance.random() < 0.4:
                places = [*flow.places(), more]
                pairs = ((more, some_form(chance, places, p)),) if chance.random() < 0.7 else ()
                steps.append(("move", pairs, goals[k]))
                goals[k] = len(steps) - 1
        steps[at] = with_goals(steps[at], goals)
    return Flow((more, *flow.places()), tuple(steps), prime=p)


def leaned(chance, flow):
    """An alike flow: it keeps sums of what the other one keeps, by rows that can be led back."""
    p, places = flow.prime(), flow.places()
    if not 1 <= len(places) <= 4:
        return flow
    put, back = some_change(chance, len(places), p)
    kept = [f"k{at}" for at in range(len(places))]

    def sum_of(rows, at, names):
        worths = {name: k for name, k in zip(names, rows[at]) if k}
        return 0, tuple(sorted(worths.items()))

    def worth(form):
        worths, n = {}, form[0]
        for place, k in form[1]:
            for name, m in sum_of(back, places.index(place), kept)[1]:
                worths[name] = (worths.get(name, 0) + k * m) % p
        return n, tuple(sorted((name, k) for name, k in worths.items() if k))

    def put_all(forms):
        """The pairs that make the kept ones of what all places come to be."""
        pairs = []
        for at, name in enumerate(kept):
            n, worths = 0, {}
            for k, (m, terms) in zip(put[at], forms):
                n = (n + k * m) % p
                for place, inner in terms:
                    worths[place] = (worths.get(place, 0) + k * inner) % p
            pairs.append((name, (n, tuple(sorted((place, k) for place, k in worths.items() if k)))))
        return tuple(pairs)

    came = {place: f"came{at}" for at, place in enumerate(places)}
    steps = list(flow.steps())
    for at in range(len(flow)):
        step, goals = steps[at], goals_of(steps[at])
        if step[0] == "move":
            now = {place: worth((0, ((place, 1),))) for place in places}
            now.update((place, worth(form)) for place, form in step[1])
            steps[at] = ("move", put_all([now[place] for place in places]), step[2])
            continue
        params = [way[1] for way in step[1]] if step[0] == "serve" else []
        params = params or [[step[1]]] if step[0] in ("serve", "take") else [[step[4]], []] if step[0] == "ask" else []
        for k, names in enumerate(params):
            if any(names):
                now = [(0, ((came[place], 1),)) if place in names else worth((0, ((place, 1),))) for place in places]
                steps.append(("move", put_all(now), goals[k]))
                goals[k] = len(steps) - 1
        steps[at] = with_goals(mapped(step, lambda place: came.get(place, ""), worth), goals)
    return Flow((*kept, *came.values()), tuple(steps), prime=p)


def some_change(chance, many, p):
    """Two square tables by p of which each leads back what the other one makes."""
    put = [[int(at == k) for k in range(many)] for at in range(many)]
    back = [row[:] for row in put]
    for _ in range(4):
        at, k, n = chance.randrange(many), chance.randrange(many), chance.randrange(1, p)
        if at == k:
            # n times one row, and that column the less
            put[at] = [n * m % p for m in put[at]]
            for row in back:
                row[at] = row[at] * inverse(n, p) % p
        else:
            put[at] = [(m + n * other) % p for m, other in zip(put[at], put[k])]
            for row in back:
                row[k] = (row[k] - n * row[at]) % p
    return put, back


def twin_of(chance, flow, many=3):
    """An alike flow, made by some such ways."""
    for way in chance.choices((mixed, doubled, delayed, leaned), k=many):
        if way is not delayed or "more" not in flow.places():
            flow = way(chance, flow)
    return mixed(chance, flow)


def changed(chance, flow):
    """A flow that is another one in one thing."""
    p = flow.prime()
    steps = list(flow.steps())
    while True:
        at = chance.randrange(1, len(steps))
        step = some_step(chance, list(flow.places()), p, len(steps)) if chance.random() < 0.2 else steps[at]
        if step[0] in ("out", "done", "move") and chance.random() < 0.7:
            step = mapped(step, lambda place: place, lambda form: ((form[0] + chance.choice((0, 1))) % p, form[1]))
        elif step[0] == "fail":
            step = ("fail", "other")
        elif step[0] in ("pick", "take", "out", "ask", "move"):
            goals = goals_of(step)
            goals[chance.randrange(len(goals))] = chance.randrange(1, len(steps))
            step = with_goals(step, goals)
        if step != steps[at]:
            try:
                return Flow(flow.places(), (*steps[:at], step, *steps[at + 1:]), prime=p)
            except NoFlow:
                continue
        if chance.random() < 0.02:
            return flow


def plain_on(flow, number, held, letter):
    """From a step that waits on, behind a letter: the events, and the stopping steps come by with what is held."""
    p, held = flow.prime(), dict(zip(flow.places(), held))

    def now(form):
        return (form[0] + sum(k * held[place] for place, k in form[1])) % p

    step = flow.steps()[number]
    goals = goals_of(step)
    puts = []
    if step[0] == "serve":
        at = [way[0] for way in step[1]].index(letter[0])
        events, puts = [("call", *letter)], list(zip(step[1][at][1], letter[1]))
    elif step[0] == "pick":
        at = [way[0] for way in step[1]].index(letter)
        events = [("pick", letter)]
    elif letter == "!":
        at, events = 1, [("fault",)]
    else:
        at, events, puts = 0, [("take" if step[0] == "take" else "answer", letter)], [(step[4 if step[0] == "ask" else 1], letter)]
    held.update((place, n) for place, n in puts if place != "")
    number, stops = goals[at], []
    while True:
        kind, *things = flow.steps()[number]
        if kind == "move":
            held.update([(place, now(form)) for place, form in things[0]])
            number = things[1]
            continue
        stops.append((number, tuple(held.values())))
        if kind == "ask":
            events.append(("ask", things[0], things[1], tuple(now(form) for form in things[2])))
        if kind in ("serve", "pick", "take", "ask"):
            return events, stops
        events.append((kind, now(things[0]) if kind != "fail" else things[0]))
        number = things[1] if kind == "out" else 0


def letters_at(flow, number):
    """All letters that are due at a step, as they rise."""
    step, p = flow.steps()[number], flow.prime()
    if step[0] == "serve":
        return [(deed, numbers) for deed, params, _ in step[1]
                for numbers in itertools.product(range(p), repeat=len(params))]
    if step[0] == "pick":
        return [word for word, _ in step[1]]
    return [*range(p), *(["!"] if step[0] == "ask" else [])]


def due_of(flow, number):
    step = flow.steps()[number]
    return (step[0], *([tuple(word for word, _ in step[1])] if step[0] == "pick" else []))


def plain_found(one, other):
    """All that comes, step by step: ("like", the states of each pair) or ("unlike", the least letters)."""
    begin = (0, (0,) * len(one.places())), (0, (0,) * len(other.places()))
    states = {(0, 0): {(1, *begin[0][1], *begin[1][1]): True}}
    known, waiting = {begin: True}, [(begin, [])]
    for (here, there), row in waiting:
        for letter in letters_at(one, here[0]):
            events, stops = plain_on(one, *here, letter)
            others, other_stops = plain_on(other, *there, letter)
            if events != others or due_of(one, stops[-1][0]) != due_of(other, other_stops[-1][0]):
                return "unlike", [*row, letter]
            for (number, held), (other_number, other_held) in zip(stops, other_stops):
                states.setdefault((number, other_number), {})[(1, *held, *other_held)] = True
            both = stops[-1], other_stops[-1]
            if both not in known:
                known[both] = True
                waiting.append((both, [*row, letter]))
    return "like", {pair: tuple(came) for pair, came in states.items()}


def residue(flow, number, weights, came, depth):
    """What is told from a step on: shapes, and how much the numbers count that come from there on, so many steps on."""
    kind, *things = flow.steps()[number]
    p = flow.prime()

    def now(form):
        found = {}
        for place, k in form[1]:
            for at, m in weights.get(place, {}).items():
                found[at] = (found.get(at, 0) + k * m) % p
        return {at: m for at, m in found.items() if m}

    def told(form):
        return tuple(sorted(now(form).items()))

    def on(to, params=()):
        puts = {place: {came + at: 1} for at, place in enumerate(params)}
        return residue(flow, to, {**weights, **puts}, came + len(params), depth - 1)

    if depth == 0:
        return ()
    if kind == "move":
        come = {place: now(form) for place, form in things[0]}
        return residue(flow, things[1], {**weights, **come}, came, depth)
    if kind == "serve":
        return kind, tuple((deed, len(params), on(to, params)) for deed, params, to in things[0])
    if kind == "pick":
        return kind, tuple((word, on(to)) for word, to in things[0])
    if kind == "take":
        return kind, on(things[1], things[:1])
    if kind == "ask":
        return (*things[:2], tuple(map(told, things[2])), on(things[4], things[3:4]), on(things[5]))
    if kind == "out":
        return kind, told(things[0]), on(things[1])
    return kind, told(things[0]) if kind == "done" else things[0], on(0)

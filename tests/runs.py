"""Second, plain ways to run units, and letters that are due, for the tests."""


class Waits(Exception):
    pass


class Wrong(Exception):
    pass


class Long(Exception):
    pass


class Ends(Exception):
    pass


class Plain:
    """Letters heard and events told, with what comes of them: ("run", events, due), ("letter", at) or ("long",)."""

    def __init__(self, letters, most, p):
        self.left = list(enumerate(letters))
        self.most = most
        self.p = p
        self.events = []

    def tell(self, *event):
        self.events.append(event)
        if len(self.events) > self.most:
            raise Long

    def hear(self, due, event_of):
        if not self.left:
            raise Waits(due)
        at, letter = self.left.pop(0)
        event = event_of(letter)
        if event is None:
            raise Wrong(at)
        self.tell(*event)
        return letter

    def number(self, letter):
        return type(letter) is int and 0 <= letter < self.p

    def call(self, deeds):
        def event_of(letter):
            if type(letter) is tuple and len(letter) == 2 and type(letter[0]) is str and type(letter[1]) is tuple:
                if deeds.get(letter[0]) == len(letter[1]) and all(self.number(n) for n in letter[1]):
                    return "call", *letter
        return self.hear(("call",), event_of)

    def word(self, words):
        words = tuple(sorted(words))
        return self.hear(("pick", words), lambda word: ("pick", word) if type(word) is str and word in words else None)

    def take(self):
        return self.hear(("take",), lambda n: ("take", n) if self.number(n) else None)

    def answer(self):
        def event_of(letter):
            return ("fault",) if letter == "!" else ("answer", letter) if self.number(letter) else None
        return self.hear(("ask",), event_of)

    def told(self, run):
        try:
            while True:
                run()
        except Waits as waits:
            return "run", self.events, waits.args[0]
        except Wrong as wrong:
            return "letter", wrong.args[0]
        except Long:
            return ("long",)


def plain_walked(unit, letters, most=10 ** 9):
    """What a written unit tells: rows within rows are functions within functions here."""
    p = unit.prime()
    talk = Plain(letters, most, p)
    hidden = dict.fromkeys(unit.hidden(), 0)
    deeds = {name: (params, rows) for name, params, rows in unit.deeds()}

    def worth(form, own):
        return (form[0] + sum(k * {**own, **hidden}.get(place, 0) for place, k in form[1])) % p

    def put(name, n, own):
        (hidden if name in hidden else own)[name] = n

    def do(rows, own):
        for kind, *things in rows:
            if kind == "let":
                put(things[0], worth(things[1], own), own)
            elif kind == "take":
                put(things[0], talk.take(), own)
            elif kind == "out":
                talk.tell("out", worth(things[0], own))
            elif kind == "pick":
                do(dict(things[0])[talk.word(dict(things[0]))], own)
            elif kind == "loop":
                while (word := talk.word([*dict(things[0]), things[1]])) != things[1]:
                    do(dict(things[0])[word], own)
            elif kind == "ask":
                talk.tell("ask", things[1], things[2], tuple(worth(form, own) for form in things[3]))
                answer = talk.answer()
                if answer == "!":
                    do(things[4], own)
                else:
                    put(things[0], answer, own)
            elif kind == "return":
                talk.tell("done", worth(things[0], own))
                raise Ends
            else:
                talk.tell("fail", things[0])
                raise Ends

    def run():
        name, numbers = talk.call({name: len(params) for name, (params, _) in deeds.items()})
        params, rows = deeds[name]
        try:
            do((*rows, ("return", (0, ()))), dict(zip(params, numbers)))
        except Ends:
            pass

    return talk.told(run)


def plain_ran(unit, letters, most=10 ** 9):
    """What a coded unit tells."""
    p = unit.prime()
    talk = Plain(letters, most, p)
    cells = dict.fromkeys("xyz"[:unit.hidden()], 0)
    deeds = {name: (many, code) for name, many, code in unit.deeds()}

    def call(numbers, code):
        own = {**dict.fromkeys("abcdefgh", 0), **dict(zip("abcdefgh", numbers))}
        pile, at = [], 0

        def now(u):
            return cells[u] if u in cells else own[u]

        def put(u, n):
            (cells if u in cells else own)[u] = n % p

        while True:
            if at == len(code):
                return talk.tell("fail", "end")
            kind, *things = code[at]
            at += 1
            if kind == "set":
                put(*things)
            elif kind == "copy":
                put(things[0], now(things[1]))
            elif kind == "plus":
                put(things[0], now(things[0]) + now(things[1]))
            elif kind == "times":
                put(things[0], now(things[0]) * things[1])
            elif kind == "push":
                pile.append(now(things[0]))
                if len(pile) > 4:
                    return talk.tell("fail", "full")
            elif kind == "pop":
                if not pile:
                    return talk.tell("fail", "empty")
                put(things[0], pile.pop())
            elif kind == "go":
                at = things[0]
            elif kind == "pick":
                at = dict(things[0])[talk.word(dict(things[0]))]
            elif kind == "take":
                put(things[0], talk.take())
            elif kind == "out":
                talk.tell("out", now(things[0]))
            elif kind == "ask":
                talk.tell("ask", things[0], things[1], tuple(now(u) for u in "abc"[:things[2]]))
                answer = talk.answer()
                if answer == "!":
                    at = things[3]
                else:
                    put("a", answer)
            elif kind == "ret":
                return talk.tell("done", now("a"))
            else:
                return talk.tell("fail", things[0])

    def run():
        name, numbers = talk.call({name: many for name, (many, _) in deeds.items()})
        call(numbers, deeds[name][1])

    return talk.told(run)


def deeds_of(whole):
    """The pairs of a deed and how many numbers, of a unit or a flow."""
    many = [deed[1] for deed in whole.deeds()]
    return [(deed[0], n if isinstance(n, int) else len(n)) for deed, n in zip(whole.deeds(), many)]


def next_letter(chance, whole, due):
    """A letter that is due."""
    p = whole.prime()
    if due == ("call",):
        deed, many = chance.choice(deeds_of(whole))
        return deed, tuple(chance.choice((0, 1, chance.randrange(p))) for _ in range(many))
    if due[0] == "pick":
        return chance.choice(due[1])
    return "!" if due == ("ask",) and chance.random() < 0.3 else chance.choice((0, 1, chance.randrange(p)))


def some_letters(chance, whole, many, run):
    """Letters that are due, one behind another, as a plain run of the unit has it."""
    letters = []
    for _ in range(many):
        letters.append(next_letter(chance, whole, run(whole, letters)[2]))
    return letters


def answer_of(function, errors, *things, **named):
    """What a run answers: ("run", events, due), ("letter", at) or ("long",)."""
    no_letter, too_long = errors
    try:
        return ("run", *function(*things, **named))
    except no_letter as caught:
        return "letter", caught.at
    except too_long:
        return ("long",)


class Keeper:
    """A flow that keeps what it holds, and others of its own that do what it asks of some units."""

    def __init__(self, flow, inner=None):
        self.flow = flow
        self.inner = inner or {}
        self.held = dict.fromkeys(flow.places(), 0)
        self.calls = 0

    def worth(self, form):
        return (form[0] + sum(k * self.held[place] for place, k in form[1])) % self.flow.prime()

    def put(self, pairs):
        self.held.update((place, n) for place, n in pairs if place != "")

    def asked(self, unit, deed, numbers, talk):
        if unit in self.inner:
            word, n = self.inner[unit].call(deed, numbers, talk)
            return n if word == "done" else "!"
        talk.tell("ask", unit, deed, numbers)
        return talk.answer()

    def call(self, deed, numbers, talk):
        """How a call ends: ("done", n) or ("fail", word)."""
        self.calls += 1
        [(params, number)] = [(params, to) for name, params, to in self.flow.steps()[0][1] if name == deed]
        assert len(params) == len(numbers)
        self.put(zip(params, numbers))
        while True:
            kind, *things = self.flow.steps()[number]
            if kind == "move":
                self.put([(place, self.worth(form)) for place, form in things[0]])
                number = things[1]
            elif kind == "pick":
                number = dict(things[0])[talk.word(dict(things[0]))]
            elif kind == "take":
                self.put([(things[0], talk.take())])
                number = things[1]
            elif kind == "out":
                talk.tell("out", self.worth(things[0]))
                number = things[1]
            elif kind == "ask":
                answer = self.asked(things[0], things[1], tuple(map(self.worth, things[2])), talk)
                number = things[5 if answer == "!" else 4]
                self.put([(things[3], answer)] if answer != "!" else [])
            else:
                return kind, self.worth(things[0]) if kind == "done" else things[0]


def plain_kept(make, letters, most=10 ** 9):
    """What a flow tells with others beside it; make makes it anew."""
    keeper = make()
    talk = Plain(letters, most, keeper.flow.prime())
    deeds = dict(keeper.flow.deeds())
    return talk.told(lambda: talk.tell(*keeper.call(*talk.call(deeds)[0:2], talk)))

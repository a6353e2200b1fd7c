"""Units as flows."""

from onetrace.coded import CELLS, MOST_PILED, REGISTERS
from onetrace.flows import Flow
from onetrace.forms import place_form, put_in, sum_of, times_of
from onetrace.written import Written, variables_of

NOUGHT = (0, ())
PILE = ("p1", "p2", "p3", "p4")
HEIGHTS = {"push": 1, "pop": -1}


class Making:
    """The steps of a flow as it is made; like ones are made once."""

    def __init__(self):
        # the serve leads to others, and is told last
        self.made = [("serve",)]
        self.known = {}

    def reserved(self):
        """The number of a step that is told later."""
        self.made.append(("serve",))
        return len(self.made) - 1

    def number_of(self, step):
        """The number of a step."""
        if step not in self.known:
            self.known[step] = self.reserved()
            self.made[self.known[step]] = step
        return self.known[step]

    def moved(self, pairs, to):
        """The number of the step that puts these, and goes on there."""
        return self.number_of(("move", tuple(pairs), to)) if pairs else to

    def whole_flow(self, places, ways, p):
        """The flow of these steps, to which calls come by these ways."""
        steps = [("serve", tuple(sorted(ways)))] + self.made[1:]
        return Flow(tuple(places), tuple(steps), prime=p)


def cleared(places):
    """The pairs that put 0 to all of these places."""
    return [(place, NOUGHT) for place in places]


def flow_of(unit):
    """The flow that tells and waits as a unit does."""
    return flow_of_written(unit) if isinstance(unit, Written) else flow_of_coded(unit)


def flow_of_written(unit):
    """The flow of a written unit."""
    variables = [variables_of(deed, unit.hidden()) for deed in unit.deeds()]
    places = [f"v{at + 1}" for at in range(max([len(names) for names in variables]))]
    making = Making()
    ways = []
    for deed, names in zip(unit.deeds(), variables):
        name, params, rows = deed
        lead = RowsLead(making, dict(zip(names, places)), places, unit.prime())
        to = lead.rows_from(rows, lead.done_from(NOUGHT))
        own = places[:len(params)]
        ways.append((name, tuple(own), making.moved(cleared(places[len(own):]), to)))
    return making.whole_flow(list(unit.hidden()) + places, ways, unit.prime())


class RowsLead:
    """How the rows of a deed become steps: the last ones first, each by the number of the step behind it."""

    def __init__(self, making, names, spots, p):
        self.making = making
        # the places of the variables of the deed, and all places that aren't kept
        self.place_by = names
        self.spots = spots
        self.p = p

    def place_of(self, name):
        """The place of a hidden name or a variable."""
        return self.place_by.get(name, name)

    def form_of(self, form):
        """The form over places that is worth what this one is over names."""
        return put_in(form, {name: place_form(place) for name, place in self.place_by.items()}, self.p)

    def rows_from(self, rows, to):
        """The number of the first step of rows, behind which it goes on at to."""
        ends = [at for at, row in enumerate(rows) if row[0] in ("return", "fail")]
        # those behind the first return or fail are never done
        left = rows[:ends[0] + 1] if ends else rows
        for row in reversed(left):
            lead = LEADS[row[0]]
            to = lead(self, row, to)
        return to

    def ways_from(self, row, to):
        """The list of the ways of a pick or loop, each with the number of its first step."""
        return [(word, self.rows_from(rows, to)) for word, rows in row[1]]

    def done_from(self, form):
        """The number of the step from which a call is done; what isn't kept is 0 from then on."""
        if not self.spots:
            return self.making.number_of(("done", self.form_of(form)))
        first = self.spots[0]
        pairs = [(first, self.form_of(form))] + cleared(self.spots[1:])
        return self.making.moved(pairs, self.making.number_of(("done", place_form(first))))

    def failed_from(self, word):
        """The number of the step from which a call fails; what isn't kept is 0 from then on."""
        return self.making.moved(cleared(self.spots), self.making.number_of(("fail", word)))


def lead_let(lead, row, to):
    """A let is a move."""
    return lead.making.moved([(lead.place_of(row[1]), lead.form_of(row[2]))], to)


def lead_take(lead, row, to):
    """A take is one."""
    return lead.making.number_of(("take", lead.place_of(row[1]), to))


def lead_out(lead, row, to):
    """An out is one."""
    return lead.making.number_of(("out", lead.form_of(row[1]), to))


def lead_pick(lead, row, to):
    """A pick is one; its rows go on behind it."""
    return lead.making.number_of(("pick", tuple(lead.ways_from(row, to))))


def lead_loop(lead, row, to):
    """A loop is a pick; its rows go on at it, and its last word behind it."""
    number = lead.making.reserved()
    ways = lead.ways_from(row, number) + [(row[2], to)]
    lead.making.made[number] = ("pick", tuple(sorted(ways)))
    return number


def lead_ask(lead, row, to):
    """An ask is one; its rows go on behind it."""
    _, x, unit, deed, forms, rows = row
    told = tuple([lead.form_of(form) for form in forms])
    return lead.making.number_of(("ask", unit, deed, told, lead.place_of(x), to, lead.rows_from(rows, to)))


def lead_return(lead, row, _):
    """From a return a call is done, whatever is behind it."""
    return lead.done_from(row[1])


def lead_fail(lead, row, _):
    """From a fail a call fails, whatever is behind it."""
    return lead.failed_from(row[1])


LEADS = {
    "let": lead_let, "take": lead_take, "out": lead_out, "pick": lead_pick, "loop": lead_loop, "ask": lead_ask,
    "return": lead_return, "fail": lead_fail,
}


def flow_of_coded(unit):
    """The flow of a coded unit."""
    making = Making()
    ways = []
    for name, many, code in unit.deeds():
        to = CodeLead(making, code, unit.prime()).first_number()
        ways.append((name, REGISTERS[:many], making.moved(cleared(REGISTERS[many:]), to)))
    return making.whole_flow(REGISTERS + CELLS[:unit.hidden()] + PILE, ways, unit.prime())


class CodeLead:
    """How a code becomes steps: one for each instruction and each height of the pile that come together."""

    def __init__(self, making, code, p):
        self.making = making
        self.code = code
        self.p = p
        self.spots = {}
        self.waiting = []

    def first_number(self):
        """The number of the first step of the code."""
        first = self.number_at(0, 0)
        while self.waiting:
            at, height = self.waiting.pop()
            self.making.made[self.spots[at, height]] = self.step_at(at, height)
        return first

    def number_at(self, at, height):
        """The number of the step for an instruction with a pile so high; the step itself is told later."""
        if (at, height) not in self.spots:
            self.spots[at, height] = self.making.reserved()
            self.waiting.append((at, height))
        return self.spots[at, height]

    def step_at(self, at, height):
        """The step for an instruction with a pile so high."""
        if at == len(self.code):
            return self.failed("end")
        step = self.code[at]
        if step[0] == "push" and height == MOST_PILED:
            return self.failed("full")
        if step[0] == "pop" and height == 0:
            return self.failed("empty")
        if step[0] in ("go", "pick", "ret", "fail"):
            return self.leading_step(step, height)
        to = self.number_at(at + 1, height + HEIGHTS.get(step[0], 0))
        if step[0] == "take":
            return ("take", step[1], to)
        if step[0] == "out":
            return ("out", place_form(step[1]), to)
        if step[0] == "ask":
            forms = tuple([place_form(place) for place in REGISTERS[:step[3]]])
            return ("ask", step[1], step[2], forms, REGISTERS[0], to, self.number_at(step[4], height))
        return ("move", self.pairs_of(step, height), to)

    def leading_step(self, step, height):
        """The step for an instruction that doesn't go on behind itself."""
        if step[0] == "go":
            return ("move", (), self.number_at(step[1], height))
        if step[0] == "pick":
            return ("pick", tuple([(word, self.number_at(to, height)) for word, to in step[1]]))
        return self.failed(step[1]) if step[0] == "fail" else self.done()

    def pairs_of(self, step, height):
        """The pairs that an instruction puts."""
        u = place_form(step[1])
        if step[0] == "push":
            return ((PILE[height], u),)
        if step[0] == "pop":
            # what is off the pile is 0, so that it isn't carried along
            top = PILE[height - 1]
            return (step[1], place_form(top)), (top, NOUGHT)
        if step[0] == "plus":
            return ((step[1], sum_of(u, place_form(step[2]), self.p)),)
        if step[0] == "times":
            return ((step[1], times_of(u, step[2], self.p)),)
        return ((step[1], (step[2], ()) if step[0] == "set" else place_form(step[2])),)

    def done(self):
        """The step from which a call is done; what isn't kept is 0 from then on."""
        to = self.making.number_of(("done", place_form(REGISTERS[0])))
        return ("move", tuple(cleared(REGISTERS[1:] + PILE)), to)

    def failed(self, word):
        """The step from which a call fails; what isn't kept is 0 from then on."""
        to = self.making.number_of(("fail", word))
        return ("move", tuple(cleared(REGISTERS + PILE)), to)

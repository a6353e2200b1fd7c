"""Papers: what shows of two flows that they are alike."""

from onetrace.flowruns import led_on
from onetrace.numbers import is_number, is_tuple
from onetrace.spaces import first_place, is_rows, less_terms, reduced, terms_of

# the kinds of letters behind which something stopped goes on; behind none of them it does so at once
CALL = "call"
WORD = "word"
NUMBER = "number"
FAULT = "fault"
ON = "on"


class Way:
    """How something stopped goes on: behind which kind of letter, with how many numbers, to where, and what is put.

    The lead tells, of each column that comes to be another one, the terms that it is the sum of; numbers that come
    stand behind all columns.
    """

    def __init__(self, kind, word, many, goal, lead):
        self.kind = kind
        self.word = word
        self.many = many
        self.goal = goal
        self.lead = lead


class Side:
    """A flow with its places in the columns from first on, of so many in all: its stopping steps and their ways."""

    def __init__(self, flow, first, width):
        self.flow = flow
        self.width = width
        self.columns = {place: first + at for at, place in enumerate(flow.places())}

    def has_stop(self, thing):
        """Whether a thing is the number of a stopping step."""
        return is_number(thing, len(self.flow)) and self.flow.steps()[thing][0] != "move"

    def shape(self, number):
        """What two stopping steps that go together have in common."""
        step = self.flow.steps()[number]
        if step[0] == "serve":
            return "serve", self.flow.deeds()
        if step[0] == "pick":
            return "pick", tuple([word for word, _ in step[1]])
        if step[0] == "ask":
            return "ask", step[1], step[2], len(step[3])
        return step if step[0] == "fail" else step[:1]

    def told(self, number):
        """The list of the terms of all worths that a stopping step tells."""
        step = self.flow.steps()[number]
        if step[0] in ("out", "done"):
            return [self.terms(step[1], {})]
        return [self.terms(form, {}) for form in step[3]] if step[0] == "ask" else []

    def terms(self, form, puts):
        """The terms of a form, where some places are put what stands in other columns."""
        n, terms = form
        found = {puts.get(place, self.columns[place]): k for place, k in terms}
        if n != 0:
            found[0] = n
        return found

    def ways_at(self, number):
        """The list of the ways of a stopping step."""
        step = self.flow.steps()[number]
        if step[0] == "serve":
            return [self.way(CALL, deed, params, to) for deed, params, to in step[1]]
        if step[0] == "pick":
            return [self.way(WORD, word, (), to) for word, to in step[1]]
        if step[0] == "take":
            return [self.way(NUMBER, "", (step[1],), step[2])]
        if step[0] == "ask":
            return [self.way(NUMBER, "", (step[4],), step[5]), self.way(FAULT, "", (), step[6])]
        return [self.way(ON, "", (), step[2] if step[0] == "out" else 0)]

    def way(self, kind, word, params, to):
        """The way that puts the numbers that come to these places, and goes on at a step."""
        goal, forms = led_on(self.flow, to)
        puts = {place: self.width + at for at, place in enumerate(params)}
        lead = {}
        for place, form in forms.items():
            terms = self.terms(form, puts)
            if terms != {self.columns[place]: 1}:
                lead[self.columns[place]] = terms
        return Way(kind, word, len(params), goal, lead)


class Beside:
    """Two flows beside one another: a column for 1, then the places of the first, then those of the other."""

    def __init__(self, one, other):
        middle = 1 + len(one.places())
        self.p = one.prime()
        self.width = middle + len(other.places())
        self.first = Side(one, 1, self.width)
        self.other = Side(other, middle, self.width)

    def has_pair(self, thing):
        """Whether a thing is a pair of stopping steps."""
        return is_tuple(thing, 2, 2) and self.first.has_stop(thing[0]) and self.other.has_stop(thing[1])

    def differences(self, pair):
        """The list of the terms that are worth 0 where both tell the same, or None where they don't go together."""
        if self.first.shape(pair[0]) != self.other.shape(pair[1]):
            return None
        return [less_terms(one, other, 1, self.p)
                for one, other in zip(self.first.told(pair[0]), self.other.told(pair[1]))]

    def ways_at(self, pair):
        """The list of the ways of two steps that go together, to pairs."""
        ways = []
        for one, other in zip(self.first.ways_at(pair[0]), self.other.ways_at(pair[1])):
            lead = dict(one.lead)
            lead.update(other.lead)
            ways.append(Way(one.kind, one.word, one.many, (one.goal, other.goal), lead))
        return ways


def led_terms(terms, lead, p):
    """The terms ahead of a way which are worth what these are behind it."""
    found = {}
    for column, n in terms.items():
        for inner, k in lead.get(column, {column: 1}).items():
            found[inner] = (found.get(inner, 0) + n * k) % p
    return {column: n for column, n in found.items() if n != 0}


class Bases:
    """Rows, ready to tell what follows from them."""

    def __init__(self, rows, p):
        self.p = p
        self.bases = {first_place(row): terms_of(row) for row in reduced(rows, p)}

    def lead_to(self, terms):
        """Whether a row told by its terms follows."""
        rest = terms
        for column, n in terms.items():
            if column in self.bases:
                rest = less_terms(rest, self.bases[column], n, self.p)
        return not rest


def is_paper(one, other, thing):
    """Whether a thing is a paper of two flows."""
    if one.prime() != other.prime() or not isinstance(thing, dict):
        return False
    beside = Beside(one, other)
    for pair, rows in thing.items():
        if not beside.has_pair(pair) or not is_rows(rows, beside.width, beside.p):
            return False
    if (0, 0) not in thing or any([row[0] != 0 for row in thing[0, 0]]):
        return False
    terms = {pair: [terms_of(row) for row in rows] for pair, rows in thing.items()}
    for pair, rows in thing.items():
        if not holds_at(beside, pair, Bases(rows, beside.p), terms):
            return False
    return True


def holds_at(beside, pair, bases, terms):
    """Whether what a paper has at a pair is right there, and leads to what it has elsewhere."""
    if bases.lead_to({0: 1}):
        return True
    differences = beside.differences(pair)
    if differences is None or not all([bases.lead_to(row) for row in differences]):
        return False
    for way in beside.ways_at(pair):
        if way.goal not in terms:
            return False
        for row in terms[way.goal]:
            # no base has a column of a number that came, so these have to be 0 by themselves
            if not bases.lead_to(led_terms(row, way.lead, beside.p)):
                return False
    return True

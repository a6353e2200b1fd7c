"""Flows linked with those that do what they ask, papers of linked flows, and clients."""

from onetrace.errors import NoPair, NoUnit, TooMany
from onetrace.flows import MOST_PLACES, MOST_STEPS, Flow
from onetrace.joins import alike_rows
from onetrace.numbers import LONGEST_PLACE, PRIME, is_tuple
from onetrace.written import Written

MOST_CALLS = 5
# the stopping steps that stay such in a copy: there a done or a fail is a move back to what asked
STAYING = ("pick", "take", "out", "ask")


class Link:
    """A flow and another one that does what is asked of a unit: each such ask has its copy of the other one's steps.

    The first one's steps keep their numbers, and behind them stand the copies, in the order of the asks; the serve of
    the other one is in none of them.
    """

    def __init__(self, flow, unit, other):
        self.flow = flow
        self.callee = unit
        self.other = other
        self.callers = [number for number, step in enumerate(flow.steps()) if step[0] == "ask" and step[1] == unit]
        size = len(other) - 1
        self.starts = {number: len(flow) + at * size for at, number in enumerate(self.callers)}
        self.refuse_unlike()
        self.refuse_large()

    def refuse_unlike(self):
        """NoPair where both don't go together."""
        if self.flow.prime() != self.other.prime():
            raise NoPair("their primes are unlike")
        deeds = self.other.deeds()
        for number in self.callers:
            _, _, deed, forms, _, _, _ = self.flow.steps()[number]
            if (deed, len(forms)) not in deeds:
                raise NoPair("a deed is asked that isn't there")
        known = {place: True for place in self.flow.places()}
        if any([self.place_of(place) in known for place in self.other.places()]):
            raise NoPair("a place is there twice")

    def refuse_large(self):
        """TooMany where both together are no flow."""
        if any([len(self.place_of(place)) > LONGEST_PLACE for place in self.other.places()]):
            raise TooMany("a place has too many signs")
        if len(self.flow.places()) + len(self.other.places()) > MOST_PLACES:
            raise TooMany("there are too many places")
        if len(self.flow) + len(self.callers) * len(self.other) > MOST_STEPS:
            raise TooMany("there are too many steps")

    def place_of(self, place):
        """What a place of the other one, or nowhere, is called."""
        return place if place == "" else f"{self.callee}.{place}"

    def form_of(self, form):
        """What a form of the other one is."""
        return form[0], tuple([(self.place_of(place), k) for place, k in form[1]])

    def copy_number(self, ask, number):
        """The number of the copy of a step of the other one, for the ask with this number."""
        return self.starts[ask] + number - 1

    def called(self, number):
        """The step in the place of an ask: what it asks with is put, and it goes on in its copy."""
        _, _, name, forms, _, _, _ = self.flow.steps()[number]
        pairs, goal = [], 0
        for deed, params, to in self.other.steps()[0][1]:
            if deed == name:
                pairs = [(self.place_of(param), form) for param, form in zip(params, forms) if param != ""]
                goal = self.copy_number(number, to)
        return "move", tuple(pairs), goal

    def copied(self, step, number):
        """A step of the other one in the copy for the ask with this number."""
        _, _, _, _, place, to, fault = self.flow.steps()[number]
        if step[0] == "done":
            return "move", (((place, self.form_of(step[1])),) if place != "" else ()), to
        if step[0] == "fail":
            return "move", (), fault
        if step[0] == "pick":
            return "pick", tuple([(word, self.copy_number(number, goal)) for word, goal in step[1]])
        if step[0] == "ask":
            _, unit, deed, forms, spot, goal, other = step
            return ("ask", unit, deed, tuple([self.form_of(form) for form in forms]), self.place_of(spot),
                    self.copy_number(number, goal), self.copy_number(number, other))
        return step[0], self.inner_of(step), self.copy_number(number, step[2])

    def inner_of(self, step):
        """What a move, a take or an out of the other one puts or tells."""
        if step[0] == "move":
            return tuple([(self.place_of(place), self.form_of(form)) for place, form in step[1]])
        return self.place_of(step[1]) if step[0] == "take" else self.form_of(step[1])

    def joined_flow(self):
        """Both as one flow."""
        steps = [self.called(at) if at in self.starts else step for at, step in enumerate(self.flow.steps())]
        for number in self.callers:
            steps.extend([self.copied(step, number) for step in self.other.steps()[1:]])
        places = self.flow.places() + tuple([self.place_of(place) for place in self.other.places()])
        return Flow(places, tuple(steps), prime=self.flow.prime())


def linked(flow, unit, other):
    """The flow in which all that is asked of a unit is done by the other flow."""
    return Link(flow, unit, other).joined_flow()


class Spread:
    """Rows over two flows, told over two that have more places each: so many ahead, or so many behind.

    The places that both have more are alike, and that they are is told, too.
    """

    def __init__(self, ahead, many, more, behind, p):
        self.ahead = (0,) * ahead
        self.many = many
        self.behind = (0,) * behind
        middle = ahead + many + behind
        width = 1 + middle + ahead + more + behind
        first = 1 if ahead > 0 else 1 + many
        other = 1 + middle if ahead > 0 else 1 + middle + more
        self.alike = alike_rows(first, other, ahead + behind, width, p)

    def spread_rows(self, rows):
        """The rows that say so, and those that say of the others what these say."""
        middle = 1 + self.many
        return self.alike + tuple([
            row[:1] + self.ahead + row[1:middle] + self.behind + self.ahead + row[middle:] + self.behind
            for row in rows])


def led_paper(flow, unit, lib, new, paper):
    """A paper of a flow linked with one and with another one, of a paper of these."""
    link, other = Link(flow, unit, lib), Link(flow, unit, new)
    spread = Spread(len(flow.places()), len(lib.places()), len(new.places()), 0, flow.prime())
    # outside of the copies both others hold what they do where a call is due
    due = spread.spread_rows(paper[0, 0])
    led = {(number, number): due for number, step in enumerate(flow.steps())
           if step[0] != "move" and number not in link.starts}
    for (one, two), rows in paper.items():
        if lib.steps()[one][0] in STAYING and new.steps()[two][0] in STAYING:
            told = spread.spread_rows(rows)
            for ask in link.callers:
                led[link.copy_number(ask, one), other.copy_number(ask, two)] = told
    return led


def asker_paper(one, other, paper, unit, lib):
    """A paper of one and another flow that are linked with the same one, of a paper of both."""
    link, other_link = Link(one, unit, lib), Link(other, unit, lib)
    spread = Spread(0, len(one.places()), len(other.places()), len(lib.places()), one.prime())
    staying = [number for number, step in enumerate(lib.steps()) if step[0] in STAYING]
    led = {}
    for (number, last), rows in paper.items():
        told = spread.spread_rows(rows)
        if number in link.starts and last in other_link.starts:
            # in the copies what both asked with stays as it was
            for at in staying:
                led[link.copy_number(number, at), other_link.copy_number(last, at)] = told
        elif number not in link.starts and last not in other_link.starts:
            led[number, last] = told
    return led


def client_of(unit, letters, *, prime=PRIME):
    """A unit that asks the calls among letters of a unit, and tells each answer."""
    calls = [letter for letter in letters if is_tuple(letter, 2, 2)]
    if not 1 <= len(calls) <= MOST_CALLS:
        raise NoUnit("there are 1 to 5 calls")
    rows = []
    for deed, numbers in calls:
        forms = tuple([(n, ()) for n in numbers])
        rows.append(("ask", "n", unit, deed, forms, (("fail", "fault"),)))
        rows.append(("out", (0, (("n", 1),))))
    return Written((), (("main", (), tuple(rows)),), prime=prime)

"""Runs of coded units behind letters."""

from onetrace.coded import MOST_PILED, REGISTERS
from onetrace.flowruns import MOST_EVENTS, Talk, due_at, go_on


class CodeRun:
    """A coded unit on its way: what its places and its pile hold, and the instruction where it stands."""

    def __init__(self, unit, letters, most):
        self.source = unit
        self.talk = Talk(letters, most, unit.prime())
        # a place that isn't here holds 0
        self.held = {}
        self.pile = []
        # the code of the call that is under way
        self.code = None
        self.at = 0

    def step(self):
        """The instruction where it stands, or what stands for it: a call comes, or it fails there."""
        if self.code is None:
            return ("serve",)
        if self.at == len(self.code):
            return ("fail", "end")
        step = self.code[self.at]
        if step[0] == "push" and len(self.pile) == MOST_PILED:
            return ("fail", "full")
        if step[0] == "pop" and not self.pile:
            return ("fail", "empty")
        return step

    def worth(self, place):
        """What a place holds."""
        return self.held.get(place, 0)

    def put(self, place, n):
        """The place holds the number, to its rest, from now on."""
        self.held[place] = n % self.source.prime()

    def asked(self, step):
        """The event of an ask."""
        return ("ask", step[1], step[2], tuple([self.worth(place) for place in REGISTERS[:step[3]]]))

    def act(self, step):
        """The instruction is done."""
        # those that lead elsewhere tell so themselves
        self.at += 1
        action = ACTIONS[step[0]]
        action(self, step)

    def enter_code(self, numbers, code):
        """A call is under way: the first places hold its numbers, the other ones but the cells 0."""
        self.held = {place: n for place, n in self.held.items() if place not in REGISTERS}
        self.held.update(dict(zip(REGISTERS, numbers)))
        self.pile = []
        self.code = code
        self.at = 0

    def end(self, event):
        """The call is over."""
        self.talk.tell(event)
        self.code = None


def serve(run, _):
    """A call comes."""
    deeds = run.source.deeds()
    name, numbers = run.talk.hear_call([(deed, many) for deed, many, _ in deeds])
    for deed, _, code in deeds:
        if deed == name:
            run.enter_code(numbers, code)


def set_to(run, step):
    """A place comes to be a number."""
    run.put(step[1], step[2])


def copy_to(run, step):
    """A place comes to be another one."""
    run.put(step[1], run.worth(step[2]))


def plus(run, step):
    """A place comes to be both."""
    run.put(step[1], run.worth(step[1]) + run.worth(step[2]))


def times(run, step):
    """A place comes to be so many times what it is."""
    run.put(step[1], run.worth(step[1]) * step[2])


def push(run, step):
    """What a place holds is put on the pile."""
    run.pile.append(run.worth(step[1]))


def pop(run, step):
    """A place comes to be what is taken off the pile."""
    run.put(step[1], run.pile.pop())


def go(run, step):
    """It goes on elsewhere."""
    run.at = step[1]


def pick(run, step):
    """A word comes."""
    came = run.talk.hear_word([word for word, _ in step[1]])
    for word, to in step[1]:
        if word == came:
            run.at = to


def take(run, step):
    """A number comes."""
    run.put(step[1], run.talk.hear_number())


def out(run, step):
    """A number is told."""
    run.talk.tell(("out", run.worth(step[1])))


def ask(run, step):
    """An answer comes, or a fault."""
    n = run.talk.hear_answer()
    if n is None:
        run.at = step[4]
    else:
        run.put(REGISTERS[0], n)


def ret(run, _):
    """The call is done."""
    run.end(("done", run.worth(REGISTERS[0])))


def fail(run, step):
    """The call fails."""
    run.end(("fail", step[1]))


ACTIONS = {
    "serve": serve, "set": set_to, "copy": copy_to, "plus": plus, "times": times, "push": push, "pop": pop, "go": go,
    "pick": pick, "take": take, "out": out, "ask": ask, "ret": ret, "fail": fail,
}


def ran(unit, letters, *, most=MOST_EVENTS):
    """The pair of the list of a coded unit's events behind letters and what is due then."""
    run = CodeRun(unit, letters, most)
    step = go_on(run)
    return run.talk.events, due_at(step)

"""Runs of flows behind letters."""

from onetrace.errors import NoLetter, TooLong
from onetrace.forms import place_form, put_in, worth_of
from onetrace.numbers import is_number, is_tuple

MOST_EVENTS = 400


class Talk:
    """The letters of a run, heard one by one, and the events told on the way."""

    def __init__(self, letters, most, p):
        if not isinstance(letters, list):
            raise NoLetter(0)
        self.letters = letters
        self.most = most
        self.p = p
        self.heard = 0
        self.events = []

    def is_over(self):
        """Whether no letter is left."""
        return self.heard == len(self.letters)

    def tell(self, event):
        """One more event."""
        self.events.append(event)
        if len(self.events) > self.most:
            raise TooLong("there are more events")

    def hear(self, is_due, event):
        """The next letter, if it is due, and its event."""
        if not is_due:
            raise NoLetter(self.heard)
        self.heard += 1
        self.tell(event)

    def hear_call(self, deeds):
        """The call that comes, of one of these pairs of a deed and how many numbers it takes."""
        letter = self.letters[self.heard]
        is_due = (is_tuple(letter, 2, 2) and isinstance(letter[1], tuple) and (letter[0], len(letter[1])) in deeds
                  and all([is_number(n, self.p) for n in letter[1]]))
        self.hear(is_due, ("call", letter[0], letter[1]) if is_due else None)
        return letter

    def hear_word(self, words):
        """The word that comes, one of these."""
        letter = self.letters[self.heard]
        self.hear(letter in words, ("pick", letter))
        return letter

    def hear_number(self):
        """The number that comes."""
        letter = self.letters[self.heard]
        self.hear(is_number(letter, self.p), ("take", letter))
        return letter

    def hear_answer(self):
        """The answer that comes to what was asked, a number, or None of a fault."""
        letter = self.letters[self.heard]
        if letter == "!":
            self.hear(True, ("fault",))
            return None
        self.hear(is_number(letter, self.p), ("answer", letter))
        return letter


def go_on(run):
    """The step at which a run waits, when it has gone on as far as its letters lead it."""
    while True:
        step = run.step()
        if step[0] == "ask":
            # what is asked is told as it comes there, ahead of the answer
            run.talk.tell(run.asked(step))
        if step[0] in DUES and run.talk.is_over():
            return step
        run.act(step)


class FlowRun:
    """A flow on its way: the number of the step where it stands, and what its places hold."""

    def __init__(self, flow, letters, most):
        self.flow = flow
        self.talk = Talk(letters, most, flow.prime())
        self.number = 0
        self.held = {place: 0 for place in flow.places()}
        # the stopping steps that it has left behind the last letter, and what the places held there
        self.passed = []

    def step(self):
        """The step where it stands."""
        return self.flow.steps()[self.number]

    def worth(self, form):
        """What a form is worth now."""
        return worth_of(form, self.held, self.flow.prime())

    def put(self, place, n):
        """The place, if it is one, holds the number from now on."""
        if place != "":
            self.held[place] = n

    def asked(self, step):
        """The event of an ask."""
        return ("ask", step[1], step[2], tuple([self.worth(form) for form in step[3]]))

    def act(self, step):
        """The step is done."""
        if step[0] in DUES:
            self.passed = []
        elif step[0] != "move":
            self.passed.append((self.number, dict(self.held)))
        action = ACTIONS[step[0]]
        action(self, step)


def serve(run, step):
    """A call comes."""
    name, numbers = run.talk.hear_call(run.flow.deeds())
    for deed, params, to in step[1]:
        if deed == name:
            for place, n in zip(params, numbers):
                run.put(place, n)
            run.number = to


def move(run, step):
    """All forms are reckoned, then put."""
    come = {place: run.worth(form) for place, form in step[1]}
    run.held.update(come)
    run.number = step[2]


def pick(run, step):
    """A word comes."""
    came = run.talk.hear_word([word for word, _ in step[1]])
    for word, to in step[1]:
        if word == came:
            run.number = to


def take(run, step):
    """A number comes."""
    run.put(step[1], run.talk.hear_number())
    run.number = step[2]


def out(run, step):
    """A number is told."""
    run.talk.tell(("out", run.worth(step[1])))
    run.number = step[2]


def ask(run, step):
    """An answer comes, or a fault."""
    n = run.talk.hear_answer()
    if n is None:
        run.number = step[6]
    else:
        run.put(step[4], n)
        run.number = step[5]


def done(run, step):
    """The call is done."""
    run.talk.tell(("done", run.worth(step[1])))
    run.number = 0


def fail(run, step):
    """The call fails."""
    run.talk.tell(("fail", step[1]))
    run.number = 0


ACTIONS = {
    "serve": serve, "move": move, "pick": pick, "take": take, "out": out, "ask": ask, "done": done, "fail": fail,
}
# what waits for a letter, and what is due there; a loop is a written unit's
DUES = {"serve": ("call",), "pick": ("pick",), "loop": ("pick",), "take": ("take",), "ask": ("ask",)}


def due_at(step):
    """What is due at a step that waits for a letter."""
    if step[0] == "pick":
        return ("pick", tuple([word for word, _ in step[1]]))
    return DUES[step[0]]


def run_of(flow, letters, most):
    """The run of a flow behind letters."""
    run = FlowRun(flow, letters, most)
    go_on(run)
    return run


def stops_behind(flow, letters, most):
    """The list of the stopping steps come by behind the last letter, in order, and what all places hold there."""
    run = run_of(flow, letters, most)
    return run.passed + [(run.number, run.held)]


def events_of(flow, letters, *, most=MOST_EVENTS):
    """The pair of the list of events behind letters and what is due then."""
    run = run_of(flow, letters, most)
    return run.talk.events, due_at(run.step())


def state_of(flow, letters, *, most=MOST_EVENTS):
    """The pair of the number of the step come to behind letters and the dict of what all places hold there."""
    run = run_of(flow, letters, most)
    return run.number, run.held


def led_on(flow, number):
    """The pair of the first stopping step from a step on and the dict of the forms that all places come to be."""
    steps = flow.steps()
    forms = {place: place_form(place) for place in flow.places()}
    at = number
    while steps[at][0] == "move":
        _, pairs, at = steps[at]
        # all of a move is reckoned by what was there ahead of it
        come = {place: put_in(form, forms, flow.prime()) for place, form in pairs}
        forms.update(come)
    return at, forms

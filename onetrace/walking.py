"""Runs of written units behind letters."""

from onetrace.flowruns import DUES, MOST_EVENTS, Talk, go_on
from onetrace.forms import worth_of

NOUGHT = (0, ())


class Walk:
    """A written unit on its way: what its names hold, and the rows that are still to be done."""

    def __init__(self, unit, letters, most):
        self.source = unit
        self.talk = Talk(letters, most, unit.prime())
        # a name that isn't here holds 0
        self.held = {}
        self.is_called = False
        # of all rows that are begun, those within others behind them, what is still to be done
        self.left = []

    def step(self):
        """The row that is done next; where no call is under way, one comes."""
        while self.left and not self.left[-1]:
            self.left.pop()
        if self.left:
            return self.left[-1][0]
        return ("return", NOUGHT) if self.is_called else ("serve",)

    def worth(self, form):
        """What a form is worth now."""
        return worth_of(form, self.held, self.source.prime())

    def asked(self, row):
        """The event of an ask."""
        return ("ask", row[2], row[3], tuple([self.worth(form) for form in row[4]]))

    def act(self, row):
        """The row is done."""
        action = ACTIONS[row[0]]
        action(self, row)

    def enter_deed(self, params, numbers, rows):
        """A call is under way: of all names but the hidden ones just its params hold something."""
        self.held = {name: self.held[name] for name in self.source.hidden() if name in self.held}
        self.held.update(dict(zip(params, numbers)))
        self.is_called = True
        self.left = [rows]

    def end(self, event):
        """The call is over."""
        self.talk.tell(event)
        self.is_called = False
        self.left = []

    def leave(self):
        """The row is done, and it goes on behind it."""
        self.left[-1] = self.left[-1][1:]

    def enter(self, ways, word):
        """The rows of a word are done next."""
        for name, rows in ways:
            if name == word:
                self.left.append(rows)


def serve(walk, _):
    """A call comes."""
    deeds = walk.source.deeds()
    name, numbers = walk.talk.hear_call([(deed, len(params)) for deed, params, _ in deeds])
    for deed, params, rows in deeds:
        if deed == name:
            walk.enter_deed(params, numbers, rows)


def let(walk, row):
    """A name comes to be what a form is worth."""
    walk.held[row[1]] = walk.worth(row[2])
    walk.leave()


def take(walk, row):
    """A number comes."""
    walk.held[row[1]] = walk.talk.hear_number()
    walk.leave()


def out(walk, row):
    """A number is told."""
    walk.talk.tell(("out", walk.worth(row[1])))
    walk.leave()


def pick(walk, row):
    """A word comes."""
    came = walk.talk.hear_word(words_of(row))
    walk.leave()
    walk.enter(row[1], came)


def loop(walk, row):
    """A word comes: rows that lead back here, or the end of the loop."""
    came = walk.talk.hear_word(words_of(row))
    if came == row[2]:
        walk.leave()
    else:
        walk.enter(row[1], came)


def ask(walk, row):
    """An answer comes, or a fault."""
    n = walk.talk.hear_answer()
    walk.leave()
    if n is None:
        walk.left.append(row[5])
    else:
        walk.held[row[1]] = n


def done(walk, row):
    """The call is done."""
    walk.end(("done", walk.worth(row[1])))


def fail(walk, row):
    """The call fails."""
    walk.end(("fail", row[1]))


ACTIONS = {
    "serve": serve, "let": let, "take": take, "out": out, "pick": pick, "loop": loop, "ask": ask, "return": done,
    "fail": fail,
}


def words_of(row):
    """The list of the words that can come at a pick or a loop, rising."""
    # behind its ways a loop has the word that it ends with
    return sorted([word for word, _ in row[1]] + list(row[2:]))


def due_at(row):
    """What is due at a row that waits for a letter."""
    if row[0] in ("pick", "loop"):
        return ("pick", tuple(words_of(row)))
    return DUES[row[0]]


def walked(unit, letters, *, most=MOST_EVENTS):
    """The pair of the list of a written unit's events behind letters and what is due then."""
    walk = Walk(unit, letters, most)
    row = go_on(walk)
    return walk.talk.events, due_at(row)

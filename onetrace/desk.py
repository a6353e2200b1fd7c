"""The desk: a house that is spoken to by rows of text."""

from onetrace.codetexts import read_coded
from onetrace.errors import TraceError, Unlike
from onetrace.flowruns import events_of
from onetrace.house import House
from onetrace.numbers import PRIME, is_name
from onetrace.papertexts import letter_word, read_letter
from onetrace.small import small_of
from onetrace.writtentexts import prime_told, read_written

WHAT = "what"
OK = "ok"
GOES_ON = ".."
LAST = "done"


class Desk:
    """A house, the prime of the units that are told, and the unit that is told now."""

    def __init__(self):
        self.house = House()
        self.p = PRIME
        # the kind and the name of the unit that is told, where there is one, and its rows so far
        self.head = None
        self.unit_rows = []

    def say(self, row):
        """The answer to a row."""
        if self.head is not None and row != LAST:
            # one row with a line feed in it would be two in a text: there it can't stand
            self.unit_rows.append(row.replace("\n", "?"))
            return GOES_ON
        try:
            return self.answer_to(row)
        except TraceError as caught:
            return "refused " + type(caught).__name__.lower()

    def answer_to(self, row):
        """The answer to a row that is none of a unit's."""
        if self.head is not None:
            return self.put_told()
        words = row.split(" ")
        if words[0] not in ANSWERS:
            return WHAT
        answer = ANSWERS[words[0]]
        return answer(self, words)

    def put_told(self):
        """The unit whose rows were told is put."""
        kind, name = self.head
        self.head = None
        text = "".join([row + "\n" for row in [f"prime {self.p}"] + self.unit_rows])
        unit = read_written(text) if kind == "written" else read_coded(text)
        fates = self.house.put(name, unit)
        return " ".join([OK] + listed([f"{number} {word}" for number, word, _ in fates]))


def listed(texts):
    """The list of one text of several, or of none where there are none."""
    return ["; ".join(texts)] if texts else []


def are_names(words, many):
    """Whether these are so many names behind a first word."""
    return len(words) == many + 1 and all([is_name(word) for word in words[1:]])


def begin_unit(desk, words):
    """A unit is told from now on."""
    if not are_names(words, 1):
        return WHAT
    desk.head = (words[0], words[1])
    desk.unit_rows = []
    return GOES_ON


def set_prime(desk, words):
    """Units that are told are of that prime from now on."""
    p = prime_told(words)
    if p == 0:
        return WHAT
    desk.p = p
    return OK


def drop(desk, words):
    """There is no unit of that name any more."""
    if not are_names(words, 1):
        return WHAT
    desk.house.drop(words[1])
    return OK


def claim(desk, words):
    """An equality stands, or these letters part both."""
    if not are_names(words, 2):
        return WHAT
    try:
        return str(desk.house.claim(words[1], words[2]))
    except Unlike as caught:
        return " ".join(["unlike"] + [letter_word(letter) for letter in caught.letters])


def undo(desk, words):
    """The last deed is taken back."""
    if len(words) != 1:
        return WHAT
    return OK if desk.house.undo() else "nothing"


def run(desk, words):
    """The events of a whole behind letters, and what is due then."""
    letters = [read_letter(word) for word in words[2:]]
    if not are_names(words[:2], 1) or None in letters:
        return WHAT
    events, due = events_of(desk.house.whole(words[1]), letters)
    told = ", ".join([" ".join(words_of(event)) for event in events])
    return "; ".join(([told] if events else []) + [" ".join(words_of(due))])


def words_of(told):
    """The list of the words of an event's or a due's things, those of tuples one by one."""
    words = []
    for thing in told:
        words.extend([str(inner) for inner in thing] if isinstance(thing, tuple) else [str(thing)])
    return words


def small(desk, words):
    """How many stopping steps the small form of a whole has."""
    if not are_names(words, 1):
        return WHAT
    flow = small_of(desk.house.whole(words[1]))
    return str(len([step for step in flow.steps() if step[0] != "move"]))


def standing(desk, words):
    """The equalities that stand."""
    if len(words) != 1:
        return WHAT
    told = [f"{number} {one} {other}" for number, (one, other, _) in desk.house.standing().items()]
    return "; ".join(told) if told else "none"


def names(desk, words):
    """The names of all units."""
    if len(words) != 1:
        return WHAT
    return " ".join(desk.house.names()) if desk.house.names() else "none"


ANSWERS = {
    "written": begin_unit, "coded": begin_unit, "prime": set_prime, "drop": drop, "claim": claim, "undo": undo,
    "run": run, "small": small, "standing": standing, "names": names,
}


def answers(text):
    """The list of a new desk's answers to the rows of a text."""
    desk = Desk()
    return [desk.say(row) for row in text.split("\n")]

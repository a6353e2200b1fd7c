"""Logs of a house: its deeds and what they told, and a judge that finds nothing by itself."""

from onetrace.changes import (
    State, claim_behind, drop_behind, has_size, put_behind, refuse_deeds, touched_by, without_pairs)
from onetrace.codetexts import coded_text, read_coded
from onetrace.errors import BadLog, TraceError
from onetrace.flowruns import events_of
from onetrace.house import House
from onetrace.numbers import is_tuple, is_whole
from onetrace.papers import is_paper
from onetrace.written import Written
from onetrace.writtentexts import read_written, written_text

SIZES = {"put": 4, "drop": 2, "claim": 4}
# more events than the runs of any letters that can be handed in have
ENDLESS = 1000000000


def unit_text(unit):
    """A unit's text."""
    return written_text(unit) if isinstance(unit, Written) else coded_text(unit)


def read_unit(text):
    """The unit, of either kind, that has this text."""
    rows = text.split("\n") if isinstance(text, str) else []
    if len(rows) > 1 and rows[1].startswith("cells"):
        return read_coded(text)
    return read_written(text)


def log_of(deeds):
    """The log of a new house that does these deeds."""
    refuse_deeds(deeds)
    house = House()
    return [logged(house, deed) for deed in deeds]


def logged(house, deed):
    """The row of a deed that a house does."""
    if deed[0] == "put":
        told = house.put(deed[1], deed[2])
        return "put", deed[1], unit_text(deed[2]), told
    if deed[0] == "drop":
        house.drop(deed[1])
        return "drop", deed[1]
    number = house.claim(deed[1], deed[2])
    _, _, paper = house.standing()[number]
    return "claim", deed[1], deed[2], paper


class Judge:
    """What the rows of a log have led to so far."""

    def __init__(self):
        self.state = State({}, {}, {})
        self.claims = 0

    def lets_by(self, row):
        """Whether a row is right; then its deed is done."""
        if not has_size(row, dict(SIZES)):
            return False
        try:
            if row[0] == "put":
                return self.lets_put(row[1], row[2], row[3])
            if row[0] == "drop":
                self.state = drop_behind(self.state, row[1])
                return True
            return self.lets_claim(row[1], row[2], row[3])
        except TraceError:
            return False

    def lets_put(self, name, text, told):
        """Whether the unit with this text can be put, and this is what becomes of each equality."""
        unit = read_unit(text)
        behind = put_behind(self.state, name, unit)
        touched = touched_by(self.state, name, unit)
        if not isinstance(told, list) or len(told) != len(behind.pairs):
            return False
        for number, fate in zip(behind.pairs, told):
            if not is_right(fate, number, number in touched, behind):
                return False
        self.state = without_pairs(behind, [number for number, word, _ in told if word == "fell"])
        return True

    def lets_claim(self, one, other, paper):
        """Whether the paper shows that both are alike."""
        behind = claim_behind(self.state, one, other, self.claims + 1)
        if not is_paper(behind.wholes[one], behind.wholes[other], paper):
            return False
        self.claims += 1
        self.state = behind
        return True


def is_right(fate, number, is_touched, behind):
    """Whether a thing tells what became of an equality."""
    if not is_tuple(fate, 3, 3) or not is_whole(fate[0]) or fate[0] != number:
        return False
    one, other = behind.pairs[number]
    whole, other_whole = behind.wholes[one], behind.wholes[other]
    _, word, why = fate
    if is_touched and word == "fell":
        return do_part(whole, other_whole, why)
    return word in (("led", "renewed") if is_touched else ("stays",)) and is_paper(whole, other_whole, why)


def do_part(one, other, letters):
    """Whether both go along these letters, and don't tell the same, or don't wait for the same; NoLetter if not."""
    return events_of(one, letters, most=ENDLESS) != events_of(other, letters, most=ENDLESS)


def first_wrong(log):
    """The number of the first row of a log that isn't right, or None."""
    if not isinstance(log, list):
        return 0
    judge = Judge()
    for at, row in enumerate(log):
        if not judge.lets_by(row):
            return at
    return None


def replayed(log):
    """The house behind the deeds of a log."""
    wrong = first_wrong(log)
    if wrong is not None:
        raise BadLog(wrong)
    house = House()
    for row in log:
        if row[0] == "put":
            house.put(row[1], read_unit(row[2]))
        elif row[0] == "drop":
            house.drop(row[1])
        else:
            house.claim(row[1], row[2])
    return house

"""The house: units by names, and equalities that stand whatever is changed, are led over, renewed, or fall."""

from onetrace.changes import (
    State, are_openly_alike, claim_behind, drop_behind, put_behind, refuse_deeds, touched_by, without_pairs)
from onetrace.errors import NoName, TraceError, Unlike
from onetrace.finding import found


class House:
    """Units by names, and equalities of two names with their papers."""

    def __init__(self):
        self._state = State({}, {}, {})
        self._papers = {}
        # each deed that stands, with what there was ahead of it
        self._past = []
        self._notes = []

    def put(self, name, unit):
        """The unit is the one of that name: told is what became of each equality."""
        ahead = self._state
        behind = put_behind(ahead, name, unit)
        told, papers = self._fates(behind, touched_by(ahead, name, unit), name)
        fallen = [number for number, word, _ in told if word == "fell"]
        self._stands(("put", name, unit), without_pairs(behind, fallen), papers)
        return told

    def _fates(self, behind, touched, name):
        """The pair of the list of what becomes of each equality and of the dict of the papers that are left."""
        told, papers = [], {}
        is_led = len(touched) > 0 and are_openly_alike(self._state.units[name], behind.units[name])
        for number, (one, other) in behind.pairs.items():
            if number in touched:
                word, why = found(behind.wholes[one], behind.wholes[other])
                word = "fell" if word == "unlike" else "led" if is_led else "renewed"
            else:
                word, why = "stays", self._papers[number]
            if word == "fell":
                told.append((number, word, why))
            else:
                papers[number] = why
                told.append((number, word, copied(why)))
        return told, papers

    def _stands(self, deed, state, papers):
        """A deed is done: this is what there is from now on."""
        self._past.append((deed, self._state, self._papers))
        self._state = state
        self._papers = papers

    def drop(self, name):
        """There is no unit of that name any more."""
        self._stands(("drop", name), drop_behind(self._state, name), self._papers)

    def claim(self, one, other):
        """The wholes of two names are alike: told is the equality's number."""
        number = 1 + len([deed for deed, _, _ in self._past if deed[0] == "claim"])
        behind = claim_behind(self._state, one, other, number)
        word, why = found(behind.wholes[one], behind.wholes[other])
        if word == "unlike":
            raise Unlike(why)
        papers = dict(self._papers)
        papers[number] = why
        self._stands(("claim", one, other), behind, papers)
        return number

    def undo(self):
        """Whether there is a deed that stands; the last one is taken back."""
        if not self._past:
            return False
        _, self._state, self._papers = self._past.pop()
        return True

    def names(self):
        """The rising list of the names of its units."""
        return sorted(self._state.units)

    def unit(self, name):
        """The unit of a name."""
        if not self._state.has(name):
            raise NoName(name)
        return self._state.units[name]

    def whole(self, name):
        """The flow of a unit and of all that it asks."""
        if not self._state.has(name):
            raise NoName(name)
        return self._state.wholes[name]

    def standing(self):
        """The dict, by numbers, of the equalities that stand: both names, and the paper."""
        return {number: pair + (copied(self._papers[number]),) for number, pair in self._state.pairs.items()}

    def history(self):
        """The list of the deeds that stand."""
        return [deed for deed, _, _ in self._past]

    def all_done(self, deeds):
        """All of these deeds are done, or none: told is the list of what each tells."""
        refuse_deeds(deeds)
        self._notes.append(("begin", len(deeds)))
        state, papers, many = self._state, self._papers, len(self._past)
        told = []
        try:
            for deed in deeds:
                told.append(self._done(deed))
        except TraceError:
            self._state, self._papers, self._past = state, papers, self._past[:many]
            self._notes.append(("end", False))
            raise
        self._notes.append(("end", True))
        return told

    def _done(self, deed):
        """What a deed tells."""
        if deed[0] == "put":
            return self.put(deed[1], deed[2])
        return self.drop(deed[1]) if deed[0] == "drop" else self.claim(deed[1], deed[2])

    def notes(self):
        """The list of the notes of both ends of all that was done at once."""
        return list(self._notes)

    def twin(self):
        """Another house that has all that this one has."""
        other = House()
        other._state = self._state
        other._papers = self._papers
        other._past = list(self._past)
        other._notes = list(self._notes)
        return other

    def __eq__(self, other):
        return (isinstance(other, House) and self._state.units == other._state.units
                and self._state.pairs == other._state.pairs)


def copied(paper):
    """Another dict of the same paper."""
    return {pair: rows for pair, rows in paper.items()}

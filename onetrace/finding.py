"""Finding: the paper of two alike flows, or the least letters that part two unlike ones."""

from onetrace.errors import NoLetter, NoPair
from onetrace.flowruns import stops_behind
from onetrace.numbers import inverse
from onetrace.papers import CALL, FAULT, NUMBER, ON, Beside, Bases
from onetrace.spaces import less_terms, nulls_of, reduced, row_of, terms_of, terms_product

# more events than the runs of any letters that can be handed in have
ENDLESS = 1000000000


class Hull:
    """All rows that are nought at the states which came, told by what all of them follow from."""

    def __init__(self, width, p):
        self.p = p
        self.nulls = [{column: 1} for column in range(width)]

    def takes_in(self, state):
        """Whether a state is no sum of multiples of those that came; then it comes, too."""
        worths = [terms_product(null, state, self.p) for null in self.nulls]
        parting = [at for at, worth in enumerate(worths) if worth != 0]
        if not parting:
            return False
        # one of those that part is left out, and is taken off the others, so that these are nought there
        first = parting[0]
        share = inverse(worths[first], self.p)
        base = self.nulls[first]
        for at in parting[1:]:
            self.nulls[at] = less_terms(self.nulls[at], base, worths[at] * share, self.p)
        self.nulls.pop(first)
        return True


class Search:
    """Two flows that go along the same letters, and what came on the way.

    Rows of letters come by their length, those of one length as they rise. A state that is a sum of multiples of
    earlier ones at its pair is left, and so are numbers beyond 0 and 1: where such a row parts, one of those ahead
    of it does.
    """

    def __init__(self, one, other):
        if one.prime() != other.prime() or one.deeds() != other.deeds():
            raise NoPair("their primes or their deeds are unlike")
        self.beside = Beside(one, other)
        self.hulls = {}
        # of each pair the numbers of the rows of letters that lead there, and the states that they lead to
        self.came = {}
        # of each row of letters the number of the one ahead of its last letter, and that letter
        self.rows = [(0, None)]
        self.waiting = []
        self.steps_by = {}

    def parting_letters(self):
        """The least letters that part both, or None."""
        nought = (1,) + (0,) * (self.beside.width - 1)
        self.arrives((0, 0), nought, 0)
        at = 0
        while at < len(self.waiting):
            pair, state, row = self.waiting[at]
            for way in self.known_step(pair)[1]:
                for numbers in few_numbers(way.many):
                    self.rows.append((row, letter_of(way, numbers)))
                    last = len(self.rows) - 1
                    if not self.arrives(way.goal, self.led(state, way, numbers), last):
                        return self.letters_to(last)
            at += 1
        return None

    def known_step(self, pair):
        """The pair of the differences at a pair and of its ways, worked out once."""
        if pair not in self.steps_by:
            differences = self.beside.differences(pair)
            self.steps_by[pair] = (differences, None if differences is None else self.beside.ways_at(pair))
        return self.steps_by[pair]

    def led(self, state, way, numbers):
        """The state behind a way on which these numbers come."""
        come = list(state)
        known = state + numbers
        for column, terms in way.lead.items():
            come[column] = terms_product(terms, known, self.beside.p)
        return tuple(come)

    def arrives(self, pair, state, row):
        """Whether both tell the same from here on, till they wait for a letter."""
        while True:
            differences, ways = self.known_step(pair)
            if differences is None:
                return False
            if any([terms_product(terms, state, self.beside.p) != 0 for terms in differences]):
                return False
            if not self.keeps(pair, state, row):
                return True
            if ways[0].kind != ON:
                self.waiting.append((pair, state, row))
                return True
            pair, state = ways[0].goal, self.led(state, ways[0], ())

    def keeps(self, pair, state, row):
        """Whether a state is new at a pair; then it is kept."""
        if pair not in self.hulls:
            self.hulls[pair] = Hull(self.beside.width, self.beside.p)
            self.came[pair] = []
        if not self.hulls[pair].takes_in(state):
            return False
        self.came[pair].append((row, state))
        return True

    def letters_to(self, row):
        """The list of the letters of a row."""
        letters = []
        while row != 0:
            row, letter = self.rows[row]
            letters.append(letter)
        return letters[::-1]

    def whole_paper(self):
        """Of each pair that came, all rows that are nought at the states there."""
        width, p = self.beside.width, self.beside.p
        return {pair: reduced([row_of(null, width) for null in hull.nulls], p) for pair, hull in self.hulls.items()}


def few_numbers(many):
    """The list of tuples of so many numbers, rising, of which all others are sums of multiples."""
    ones = [tuple([1 if at == one else 0 for at in range(many)]) for one in range(many)]
    return [(0,) * many] + ones[::-1]


def letter_of(way, numbers):
    """The letter of a way on which these numbers come."""
    if way.kind == CALL:
        return way.word, numbers
    if way.kind == NUMBER:
        return numbers[0]
    return "!" if way.kind == FAULT else way.word


def found(one, other):
    """The pair of "like" and the paper of two flows, or of "unlike" and the least letters that part them."""
    search = Search(one, other)
    letters = search.parting_letters()
    return ("like", search.whole_paper()) if letters is None else ("unlike", letters)


def spans_of(one, other):
    """Of each pair that two alike flows come by, rows of letters whose states there tell all that holds there."""
    search = Search(one, other)
    if search.parting_letters() is not None:
        raise NoPair("they aren't alike")
    return {pair: [search.letters_to(row) for row, _ in came] for pair, came in search.came.items()}


def is_span(one, other, paper, thing):
    """Whether a thing is, for just the pairs of a paper, rows of letters that show that no more holds there."""
    if not isinstance(thing, dict) or len(thing) != len(paper):
        return False
    width, p = Beside(one, other).width, one.prime()
    for pair, rows in paper.items():
        states = states_behind(one, other, pair, thing.get(pair))
        if states is None:
            return False
        bases = Bases(rows, p)
        for null in nulls_of(states, width, p):
            if not bases.lead_to(terms_of(null)):
                return False
    return True


def states_behind(one, other, pair, thing):
    """The tuple of the states with which both come by a pair behind the last letters of rows, or None."""
    if not isinstance(thing, list):
        return None
    states = []
    for letters in thing:
        state = state_behind(one, other, pair, letters)
        if state is None:
            return None
        states.append(state)
    return tuple(states)


def state_behind(one, other, pair, letters):
    """The state with which both come by a pair behind the last of some letters, or None where they don't."""
    try:
        stops = stops_behind(one, letters, ENDLESS)
        others = stops_behind(other, letters, ENDLESS)
    except NoLetter:
        return None
    for (number, held), (other_number, other_held) in zip(stops, others):
        if (number, other_number) == pair:
            return (1,) + tuple(held.values()) + tuple(other_held.values())
    return None

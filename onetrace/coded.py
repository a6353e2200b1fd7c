"""Coded units: deeds for a machine with eight places of its own and a pile."""

from onetrace.errors import NoUnit
from onetrace.flows import leads_round
from onetrace.numbers import PRIME, are_unlike, are_ways, is_name, is_number, is_prime, is_tuple, is_whole

REGISTERS = ("a", "b", "c", "d", "e", "f", "g", "h")
CELLS = ("x", "y", "z")
MOST_DEEDS = 4
MOST_NUMBERS = 3
MOST_CODE = 400
MOST_WAYS = 6
MOST_PILED = 4
# of each instruction what stands behind its word: u for one of the places that hold numbers, n for a number,
# t for the number of an instruction, m for how many numbers, d for a name, w for ways
SHAPES = {
    "set": "un", "copy": "uu", "plus": "uu", "times": "un", "push": "u", "pop": "u", "go": "t", "pick": "w",
    "take": "u", "out": "u", "ask": "ddmt", "ret": "", "fail": "d",
}


class Coded:
    """A unit whose deeds are code."""

    def __init__(self, hidden, deeds, *, prime=PRIME):
        if not is_prime(prime):
            raise NoUnit("there is no such prime")
        if not is_whole(hidden) or not 0 <= hidden <= len(CELLS):
            raise NoUnit("there are 0 to 3 cells")
        if not is_tuple(deeds, 1, MOST_DEEDS) or not all([is_deed(deed, hidden, prime) for deed in deeds]):
            raise NoUnit("deeds are a tuple of 1 to 4 right ones")
        if not are_unlike([name for name, _, _ in deeds]):
            raise NoUnit("two deeds have one name")
        asks = asks_in(deeds)
        if not are_unlike([(unit, deed) for unit, deed, _ in asks]):
            raise NoUnit("one unit's deed is asked with unlike many numbers")
        self._hidden = hidden
        self._deeds = deeds
        self._prime = prime
        self._asks = asks

    def hidden(self):
        """How many cells it has."""
        return self._hidden

    def deeds(self):
        """The tuple of its deeds: name, how many numbers, code."""
        return self._deeds

    def prime(self):
        """Its prime."""
        return self._prime

    def asks(self):
        """The rising tuple of what its instructions ask: unit, deed, how many numbers."""
        return self._asks

    def __eq__(self, other):
        return (isinstance(other, Coded) and self._hidden == other._hidden and self._deeds == other._deeds
                and self._prime == other._prime)


class Machine:
    """What the instructions of a code may speak of: places, numbers of instructions, numbers by a prime."""

    def __init__(self, hidden, many, p):
        self.known = REGISTERS + CELLS[:hidden]
        self.many = many
        self.p = p

    def fits(self, sign, thing):
        """Whether a thing can stand where a shape has this sign."""
        if sign == "u":
            return isinstance(thing, str) and thing in self.known
        if sign == "n":
            return is_number(thing, self.p)
        if sign == "t":
            return is_number(thing, self.many)
        if sign == "m":
            return is_number(thing, MOST_NUMBERS + 1)
        if sign == "d":
            return is_name(thing)
        return are_ways(thing, MOST_WAYS, 2) and all([is_number(to, self.many) for _, to in thing])


def is_deed(thing, hidden, p):
    """Whether a thing is a deed of a unit with so many cells."""
    if not is_tuple(thing, 3, 3):
        return False
    name, many, code = thing
    if not is_name(name) or not is_number(many, MOST_NUMBERS + 1) or not is_tuple(code, 0, MOST_CODE):
        return False
    machine = Machine(hidden, len(code), p)
    if not all([is_instruction(step, machine) for step in code]):
        return False
    return not leads_round([idle_goals(code, at) for at in range(len(code))])


def is_instruction(thing, machine):
    """Whether a thing is an instruction for this machine."""
    if not is_tuple(thing, 1, 5) or not isinstance(thing[0], str) or thing[0] not in SHAPES:
        return False
    shape = SHAPES[thing[0]]
    if len(thing) != len(shape) + 1:
        return False
    return all([machine.fits(sign, inner) for sign, inner in zip(shape, thing[1:])])


def idle_goals(code, at):
    """The list of the instructions to which one leads that is neither pick nor take; none of those."""
    step = code[at]
    if step[0] in ("pick", "take", "ret", "fail"):
        return []
    if step[0] == "go":
        return [step[1]]
    # what stands behind the last one ends the call
    following = [at + 1] if at + 1 < len(code) else []
    return following + [step[4]] if step[0] == "ask" else following


def asks_in(deeds):
    """The rising tuple of what the instructions of deeds ask."""
    found = {}
    for _, _, code in deeds:
        for step in code:
            if step[0] == "ask":
                found[step[1:4]] = True
    return tuple(sorted(found))

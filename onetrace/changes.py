"""Changes of a house: its units and their wholes, the pairs of names of which equalities stand, what is refused."""

from onetrace.coded import Coded
from onetrace.errors import Asked, Claimed, NoDeed, NoName, NoPair, NoUnit, Round
from onetrace.finding import found
from onetrace.leading import flow_of
from onetrace.linking import linked
from onetrace.numbers import is_name
from onetrace.written import Written

# of each deed of a house how many things it has, its word among them
SIZES = {"put": 3, "drop": 2, "claim": 3}


class State:
    """What a house has at a time: units and their wholes by names, pairs of names by the numbers of equalities.

    None of it is changed: behind a change there is another one.
    """

    def __init__(self, units, wholes, pairs):
        self.units = units
        self.wholes = wholes
        self.pairs = pairs

    def has(self, thing):
        """Whether a thing is a name that is here."""
        return is_name(thing) and thing in self.units

    def is_in(self, name, number):
        """Whether the unit of a name is in a whole of an equality."""
        return any([name in names_within(self.units, one) for one in self.pairs[number]])


def refuse_deeds(thing):
    """NoDeed where a thing is no list of deeds, told by their words and how many things they have."""
    if not isinstance(thing, list):
        raise NoDeed(0)
    for at, deed in enumerate(thing):
        if not has_size(deed, dict(SIZES)):
            raise NoDeed(at)


def has_size(thing, sizes):
    """Whether a thing is a tuple that begins with one of these words and has as many things as that tells."""
    if not isinstance(thing, tuple) or not thing or not isinstance(thing[0], str):
        return False
    return len(thing) == sizes.get(thing[0], 0)


def asked_by(unit):
    """The rising list of the units that a unit asks."""
    return sorted(set([asked for asked, _, _ in unit.asks()]))


def names_within(units, name):
    """The list of the names whose units are in the whole of one, it itself among them."""
    known = {name: True}
    waiting = [name]
    while waiting:
        asker = waiting.pop()
        for asked in asked_by(units[asker]):
            if asked not in known:
                known[asked] = True
                waiting.append(asked)
    return list(known)


def deeds_of(unit):
    """The rising list of the pairs of a unit's deeds and how many numbers they take."""
    if isinstance(unit, Written):
        return sorted([(deed, len(params)) for deed, params, _ in unit.deeds()])
    return sorted([(deed, many) for deed, many, _ in unit.deeds()])


def are_matching(unit, other):
    """Whether two units have the same deeds and one prime."""
    return unit.prime() == other.prime() and deeds_of(unit) == deeds_of(other)


def put_behind(state, name, unit):
    """What a house has where the unit is put for a name; all equalities stand as they did."""
    if not is_name(name):
        raise NoName(name)
    if not isinstance(unit, (Written, Coded)):
        raise NoUnit("it is neither written nor coded")
    asked = asked_by(unit)
    for other in asked:
        if other != name and other not in state.units:
            raise NoName(other)
    if name in asked or any([name in names_within(state.units, other) for other in asked]):
        raise Round(name)
    units = dict(state.units)
    units[name] = unit
    refuse_asks(units, name)
    for one, other in state.pairs.values():
        if name in (one, other) and not are_matching(units[one], units[other]):
            raise NoPair("an equality has unlike deeds or primes")
    return State(units, wholes_behind(units, state.wholes, name), state.pairs)


def refuse_asks(units, name):
    """NoPair where what a unit asks isn't there, or what is asked of it."""
    for asker, unit in units.items():
        for asked, deed, many in unit.asks():
            if name in (asker, asked):
                if unit.prime() != units[asked].prime():
                    raise NoPair("the primes are unlike")
                if (deed, many) not in deeds_of(units[asked]):
                    raise NoPair("a deed is asked that isn't there")


def wholes_behind(units, wholes, name):
    """The wholes of all units where that of a name is another one."""
    made = {other: whole for other, whole in wholes.items() if name not in names_within(units, other)}
    for other in sorted(units):
        made[other] = whole_of(other, units, made)
    return made


def whole_of(name, units, made):
    """The whole of a name; those that it is made of are kept among the made ones, too."""
    if name in made:
        return made[name]
    whole = flow_of(units[name])
    for asked in asked_by(units[name]):
        made[asked] = whole_of(asked, units, made)
        whole = linked(whole, asked, made[asked])
    return whole


def drop_behind(state, name):
    """What a house has where there is no unit for a name any more."""
    if not state.has(name):
        raise NoName(name)
    for asker in sorted(state.units):
        if name in asked_by(state.units[asker]):
            raise Asked(asker)
    for number, pair in state.pairs.items():
        if name in pair:
            raise Claimed(number)
    units = {other: unit for other, unit in state.units.items() if other != name}
    wholes = {other: whole for other, whole in state.wholes.items() if other != name}
    return State(units, wholes, state.pairs)


def claim_behind(state, one, other, number):
    """What a house has where an equality stands that may be looked at; that both are alike isn't looked at here."""
    for name in (one, other):
        if not state.has(name):
            raise NoName(name)
    if not are_matching(state.units[one], state.units[other]):
        raise NoPair("their deeds or primes are unlike")
    pairs = dict(state.pairs)
    pairs[number] = (one, other)
    return State(state.units, state.wholes, pairs)


def touched_by(state, name, unit):
    """The list of the equalities in whose wholes a unit put for a name is another one than was there."""
    # what is new is in no whole but its own
    if name not in state.units or state.units[name] == unit:
        return []
    return [number for number in state.pairs if state.is_in(name, number)]


def are_openly_alike(unit, other):
    """Whether two units have the same deeds and are alike, whatever those that they ask do."""
    return are_matching(unit, other) and found(flow_of(unit), flow_of(other))[0] == "like"


def without_pairs(state, numbers):
    """What a house has where these equalities stand no more."""
    pairs = {number: pair for number, pair in state.pairs.items() if number not in numbers}
    return State(state.units, state.wholes, pairs)

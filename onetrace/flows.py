"""Flows: numbered steps over places."""

from onetrace.errors import NoFlow
from onetrace.forms import is_form_over
from onetrace.numbers import PRIME, are_unlike, are_ways, is_name, is_place, is_prime, is_tuple, is_whole

MOST_PLACES = 100
MOST_STEPS = 10000
MOST_WAYS = 6
MOST_NUMBERS = 3
SIZES = {"serve": 2, "move": 3, "pick": 2, "take": 3, "out": 3, "ask": 7, "done": 2, "fail": 2}


class Flow:
    """Numbered steps over places, by a prime."""

    def __init__(self, places, steps, *, prime=PRIME):
        if not is_prime(prime):
            raise NoFlow("there is no such prime")
        if not are_places(places):
            raise NoFlow("places are a tuple of at most 100 unlike ones")
        if not are_steps(steps, Ground(places, steps, prime)):
            raise NoFlow("steps are a tuple of right ones, that begins with its only serve")
        if leads_round([idle_goals(step) for step in steps]):
            raise NoFlow("steps lead round with neither serve, pick nor take")
        self._places = places
        self._steps = steps
        self._prime = prime

    def places(self):
        """The tuple of its places."""
        return self._places

    def steps(self):
        """The tuple of its steps."""
        return self._steps

    def prime(self):
        """Its prime."""
        return self._prime

    def deeds(self):
        """The tuple of its deeds and how many numbers each takes, rising."""
        return tuple([(deed, len(params)) for deed, params, _ in self._steps[0][1]])

    def __eq__(self, other):
        return (isinstance(other, Flow) and self._places == other._places and self._steps == other._steps
                and self._prime == other._prime)

    def __len__(self):
        return len(self._steps)


class Ground:
    """What the steps of a flow may speak of: its places, the numbers of its steps, forms over them."""

    def __init__(self, places, steps, p):
        self.known = {place: True for place in places}
        self.many = len(steps) if isinstance(steps, tuple) else 0
        self.p = p

    def has_step(self, thing):
        """Whether a thing is the number of a step from 1 on."""
        return is_whole(thing) and 1 <= thing < self.many

    def has_place(self, thing):
        """Whether a thing is one of the places."""
        return isinstance(thing, str) and thing in self.known

    def has_goal(self, thing):
        """Whether a number that came can be put to a thing."""
        return thing == "" or self.has_place(thing)

    def has_form(self, thing):
        """Whether a thing is a form over the places."""
        return is_form_over(thing, self.known, self.p)


def are_places(thing):
    """Whether a thing is a tuple of at most 100 unlike places."""
    return is_tuple(thing, 0, MOST_PLACES) and all([is_place(place) for place in thing]) and are_unlike(thing)


def are_steps(thing, ground):
    """Whether a thing is a tuple of 1 to 10000 steps, the first a serve, and no other."""
    if not is_tuple(thing, 1, MOST_STEPS) or not all([is_step(step, ground) for step in thing]):
        return False
    return [at for at, step in enumerate(thing) if step[0] == "serve"] == [0]


def is_step(thing, ground):
    """Whether a thing is a step over this ground."""
    if not is_tuple(thing, 2, 7) or not isinstance(thing[0], str) or SIZES.get(thing[0], 0) != len(thing):
        return False
    stands = STANDS[thing[0]]
    return stands(thing, ground)


def serve_stands(step, ground):
    """Whether the things of a serve are right."""
    return are_ways(step[1], MOST_WAYS, 3) and all([
        are_params(params, ground) and ground.has_step(to) for _, params, to in step[1]])


def are_params(thing, ground):
    """Whether a thing is a tuple of at most 3 places, or nowhere, no place twice."""
    if not is_tuple(thing, 0, MOST_NUMBERS) or not all([ground.has_goal(place) for place in thing]):
        return False
    return are_unlike([place for place in thing if place != ""])


def move_stands(step, ground):
    """Whether the things of a move are right."""
    pairs = step[1]
    if not isinstance(pairs, tuple) or not all([is_tuple(pair, 2, 2) for pair in pairs]):
        return False
    if not all([ground.has_place(place) and ground.has_form(form) for place, form in pairs]):
        return False
    return are_unlike([place for place, _ in pairs]) and ground.has_step(step[2])


def pick_stands(step, ground):
    """Whether the things of a pick are right."""
    return are_ways(step[1], MOST_WAYS, 2) and all([ground.has_step(to) for _, to in step[1]])


def take_stands(step, ground):
    """Whether the things of a take are right."""
    return ground.has_goal(step[1]) and ground.has_step(step[2])


def out_stands(step, ground):
    """Whether the things of an out are right."""
    return ground.has_form(step[1]) and ground.has_step(step[2])


def ask_stands(step, ground):
    """Whether the things of an ask are right."""
    _, unit, deed, forms, place, to, other = step
    if not is_name(unit) or not is_name(deed) or not is_tuple(forms, 0, MOST_NUMBERS):
        return False
    return (all([ground.has_form(form) for form in forms]) and ground.has_goal(place)
            and ground.has_step(to) and ground.has_step(other))


def done_stands(step, ground):
    """Whether the form of a done is right."""
    return ground.has_form(step[1])


def fail_stands(step, ground):
    """Whether the word of a fail is right."""
    return is_name(step[1])


STANDS = {
    "serve": serve_stands, "move": move_stands, "pick": pick_stands, "take": take_stands, "out": out_stands,
    "ask": ask_stands, "done": done_stands, "fail": fail_stands,
}


def idle_goals(step):
    """Where a step leads that is neither serve, pick nor take; nowhere of those, and of what ends a call."""
    if step[0] in ("move", "out"):
        return [step[2]]
    if step[0] == "ask":
        return [step[5], step[6]]
    return []


def leads_round(goals):
    """Whether things, each told by the list of the numbers of those it leads to, lead round."""
    many = [0 for _ in goals]
    for row in goals:
        for to in row:
            many[to] += 1
    # those that no other leads to are taken away, again and again: what is left then leads round
    free = [number for number, n in enumerate(many) if n == 0]
    left = len(goals)
    while free:
        left -= 1
        at = free.pop()
        for to in goals[at]:
            many[to] -= 1
            if many[to] == 0:
                free.append(to)
    return left > 0

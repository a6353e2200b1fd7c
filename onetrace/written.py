"""Written units: deeds of rows within rows."""

from onetrace.errors import NoUnit
from onetrace.forms import is_form_over
from onetrace.numbers import PRIME, are_unlike, are_ways, is_name, is_prime, is_tuple

MOST_HIDDEN = 3
MOST_DEEDS = 4
MOST_PARAMS = 3
MOST_VARIABLES = 4
MOST_WAYS = 4
MOST_FORMS = 3
MOST_ROWS = 16
MOST_WITHIN = 3
SIZES = {"let": 3, "take": 2, "out": 2, "pick": 2, "loop": 3, "ask": 6, "return": 2, "fail": 2}


class Written:
    """A unit whose deeds are rows within rows."""

    def __init__(self, hidden, deeds, *, prime=PRIME):
        if not is_prime(prime):
            raise NoUnit("there is no such prime")
        if not are_names(hidden, MOST_HIDDEN):
            raise NoUnit("hidden ones are a tuple of at most 3 unlike names")
        if not is_tuple(deeds, 1, MOST_DEEDS) or not all([is_deed(deed, hidden, prime) for deed in deeds]):
            raise NoUnit("deeds are a tuple of 1 to 4 right ones")
        if not are_unlike([name for name, _, _ in deeds]):
            raise NoUnit("two deeds have one name")
        asks = asks_in(deeds)
        if not are_unlike([(unit, deed) for unit, deed, _ in asks]):
            raise NoUnit("one unit's deed is asked with unlike many forms")
        self._hidden = hidden
        self._deeds = deeds
        self._prime = prime
        self._asks = asks

    def hidden(self):
        """The tuple of its hidden names."""
        return self._hidden

    def deeds(self):
        """The tuple of its deeds: name, params, rows."""
        return self._deeds

    def prime(self):
        """Its prime."""
        return self._prime

    def asks(self):
        """The rising tuple of what its rows ask: unit, deed, how many numbers."""
        return self._asks

    def __eq__(self, other):
        return (isinstance(other, Written) and self._hidden == other._hidden and self._deeds == other._deeds
                and self._prime == other._prime)


def are_names(thing, most):
    """Whether a thing is a tuple of at most so many unlike names."""
    return is_tuple(thing, 0, most) and all([is_name(name) for name in thing]) and are_unlike(thing)


def is_deed(thing, hidden, p):
    """Whether a thing is a deed of a unit with these hidden names."""
    if not is_tuple(thing, 3, 3):
        return False
    name, params, rows = thing
    if not is_name(name) or not are_names(params, MOST_PARAMS) or not are_rows(rows, 0):
        return False
    if any([param in hidden for param in params]) or len(all_rows(rows)) > MOST_ROWS:
        return False
    variables = variables_of(thing, hidden)
    known = {place: True for place in list(hidden) + variables}
    return len(variables) <= MOST_VARIABLES and all([
        is_form_over(form, known, p) for row in all_rows(rows) for form in forms_in(row)])


def are_rows(thing, around):
    """Whether a thing is a tuple of rows, their forms aside, with so many picks, loops and asks around them."""
    return isinstance(thing, tuple) and all([is_row(row, around) for row in thing])


def is_row(thing, around):
    """Whether a thing is a row, its forms aside: these can be looked at when all names are known."""
    if not is_tuple(thing, 2, 6) or not isinstance(thing[0], str) or SIZES.get(thing[0], 0) != len(thing):
        return False
    if thing[0] in ("pick", "loop"):
        return ways_stand(thing, around)
    if thing[0] == "ask":
        return ask_stands(thing, around)
    return thing[0] in ("out", "return") or is_name(thing[1])


def ways_stand(row, around):
    """Whether the ways of a pick or loop are right, and the word that a loop ends with."""
    # how deep it is comes first: what is within may lie deeper than can be followed
    if around == MOST_WITHIN or not are_ways(row[1], MOST_WAYS, 2):
        return False
    if row[0] == "loop" and (not is_name(row[2]) or row[2] in [word for word, _ in row[1]]):
        return False
    return all([are_rows(rows, around + 1) for _, rows in row[1]])


def ask_stands(row, around):
    """Whether the things of an ask are right."""
    _, x, unit, deed, forms, rows = row
    if not all([is_name(name) for name in (x, unit, deed)]) or not is_tuple(forms, 0, MOST_FORMS):
        return False
    return rows == () or (around < MOST_WITHIN and are_rows(rows, around + 1))


def rows_within(row):
    """The list of the tuples of rows that stand within a row."""
    if row[0] in ("pick", "loop"):
        return [rows for _, rows in row[1]]
    return [row[5]] if row[0] == "ask" else []


def all_rows(rows):
    """The list of all of these rows and all within them, as they are written."""
    found = []
    for row in rows:
        found.append(row)
        for inner in rows_within(row):
            found.extend(all_rows(inner))
    return found


def forms_in(row):
    """The list of the forms of a row, but for those of rows within it."""
    if row[0] == "let":
        return [row[2]]
    if row[0] == "ask":
        return list(row[4])
    return [row[1]] if row[0] in ("out", "return") else []


def variables_of(deed, hidden):
    """The list of the variables of a deed: its params, then the others as they are written."""
    _, params, rows = deed
    found = {name: True for name in params}
    for row in all_rows(rows):
        if row[0] in ("let", "take", "ask") and row[1] not in hidden:
            found[row[1]] = True
    return list(found)


def asks_in(deeds):
    """The rising tuple of what the rows of deeds ask, also such as are never done."""
    found = {}
    for _, _, rows in deeds:
        for row in all_rows(rows):
            if row[0] == "ask":
                found[row[2], row[3], len(row[4])] = True
    return tuple(sorted(found))

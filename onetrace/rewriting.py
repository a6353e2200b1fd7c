"""Rewritings: other rows that do the same."""

from onetrace.errors import NoRewrite, NoUnit
from onetrace.forms import places_in, put_in
from onetrace.numbers import is_tuple, is_whole
from onetrace.written import Written, rows_within


def rewrites_of(unit):
    """The rising list of what can be rewritten in a written unit: word, the deed's number, the path to a row."""
    found = []
    for deed, (_, _, rows) in enumerate(unit.deeds()):
        for path, block in blocks_of(rows, ()):
            for at in range(len(block)):
                for word in MAKES:
                    rewrite = (word, deed, path + (at,))
                    if unit_by(unit, rewrite) is not None:
                        found.append(rewrite)
    return sorted(found)


def rewritten(unit, rewrite):
    """The written unit that a rewriting makes of one."""
    if not is_rewrite(rewrite) or rewrite not in rewrites_of(unit):
        raise NoRewrite("there is no such rewriting")
    return unit_by(unit, rewrite)


def is_rewrite(thing):
    """Whether a thing is a word, a number and a path, each of the right kind."""
    # to Python a truth is equal to a number
    if not is_tuple(thing, 3, 3) or not isinstance(thing[0], str) or not is_whole(thing[1]):
        return False
    return isinstance(thing[2], tuple) and all([is_whole(n) for n in thing[2]])


def blocks_of(rows, path):
    """The list of the paths to rows that stand behind one another, within these rows too, and these."""
    found = [(path, rows)]
    for at, row in enumerate(rows):
        for way, inner in enumerate(rows_within(row)):
            found.extend(blocks_of(inner, path + (at, way)))
    return found


def unit_by(unit, rewrite):
    """The unit that a rewriting makes of one, its path leading to a row, or None where it can't be done."""
    word, number, path = rewrite
    name, params, rows = unit.deeds()[number]
    made = exchanged(rows, path, word, unit.prime())
    if made is None:
        return None
    deeds = unit.deeds()[:number] + ((name, params, made),) + unit.deeds()[number + 1:]
    try:
        return Written(unit.hidden(), deeds, prime=unit.prime())
    except NoUnit:
        return None


def exchanged(rows, path, word, p):
    """Rows with those from the one to which a path leads rewritten, or None."""
    at = path[0]
    if len(path) == 1:
        make = MAKES[word]
        made = make(rows, at, p)
    else:
        made = exchanged(rows_within(rows[at])[path[1]], path[2:], word, p)
        if made is not None:
            made = rows[:at] + (with_way(rows[at], path[1], made),) + rows[at + 1:]
    return made


def with_way(row, number, rows):
    """A row with other rows within it, in the way with that number."""
    if row[0] == "ask":
        return row[:5] + (rows,)
    ways = [(word, rows if at == number else inner) for at, (word, inner) in enumerate(row[1])]
    return (row[0], tuple(ways)) + row[2:]


def are_lets(rows, at):
    """Whether a row and the one behind it are lets."""
    return at + 1 < len(rows) and rows[at][0] == "let" and rows[at + 1][0] == "let"


def unrolled(rows, at, _p):
    """Rows in which a loop is a pick of its words, behind whose rows the loop comes again, or None."""
    row = rows[at]
    if row[0] != "loop":
        return None
    ways = [(word, inner + (row,)) for word, inner in row[1]] + [(row[2], ())]
    return rows[:at] + (("pick", tuple(sorted(ways))),) + rows[at + 1:]


def swapped(rows, at, _p):
    """Rows in which a let and the let behind it stand the other way about, or None."""
    if not are_lets(rows, at):
        return None
    one, other = rows[at:at + 2]
    if one[1] == other[1] or one[1] in places_in(other[2]) or other[1] in places_in(one[2]):
        return None
    return rows[:at] + (other, one) + rows[at + 2:]


def merged(rows, at, p):
    """Rows in which two lets of one name are one, or None."""
    if not are_lets(rows, at) or rows[at][1] != rows[at + 1][1]:
        return None
    _, x, form = rows[at]
    return rows[:at] + (("let", x, put_in(rows[at + 1][2], {x: form}, p)),) + rows[at + 2:]


def tailed(rows, at, _p):
    """Rows in which the row behind a pick stands at the end of each of its ways, or None."""
    if rows[at][0] != "pick" or at + 1 == len(rows):
        return None
    ways = [(word, inner + (rows[at + 1],)) for word, inner in rows[at][1]]
    return rows[:at] + (("pick", tuple(ways)),) + rows[at + 2:]


MAKES = {"merge": merged, "swap": swapped, "tail": tailed, "unroll": unrolled}

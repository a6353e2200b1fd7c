"""Rows of numbers by a prime, and what follows from them."""

from onetrace.numbers import inverse, is_number, is_tuple


def is_rows(thing, width, p):
    """Whether a thing is a tuple of rows of that width."""
    return isinstance(thing, tuple) and all([is_line(row, width, p) for row in thing])


def is_line(thing, width, p):
    """Whether a thing is one row of that width."""
    return is_tuple(thing, width, width) and all([is_number(n, p) for n in thing])


def reduced(rows, p):
    """The reduced rows from which just the same follows."""
    # each row by the place of its first number that isn't 0: a 1, where all others have 0
    bases = []
    for row in rows:
        rest = rest_of(row, bases, p)
        at = first_place(rest)
        if at < len(rest):
            base = times_row(rest, inverse(rest[at], p), p)
            bases = [(place, less(other, base, other[at], p)) for place, other in bases] + [(at, base)]
    return tuple([row for _, row in sorted(bases)])


def first_place(row):
    """The place of the first number that isn't 0, or the width where none is."""
    for at, n in enumerate(row):
        if n != 0:
            return at
    return len(row)


def less(row, base, k, p):
    """The row less k times the other one."""
    if k == 0:
        return row
    return tuple([(n - k * m) % p for n, m in zip(row, base)])


def times_row(row, k, p):
    """k times the row."""
    return tuple([n * k % p for n in row])


def rest_of(row, bases, p):
    """What is left of a row, less the multiples of reduced ones that have its first numbers."""
    rest = row
    for place, base in bases:
        rest = less(rest, base, rest[place], p)
    return rest


def follows(rows, row, p):
    """Whether a row is a sum of multiples of these."""
    bases = [(first_place(base), base) for base in reduced(rows, p)]
    rest = rest_of(row, bases, p)
    return first_place(rest) == len(rest)


def product_of(row, other, p):
    """The product of two rows."""
    return sum([n * m for n, m in zip(row, other)]) % p


def nulls_of(rows, width, p):
    """Reduced, all rows whose product with each of these is 0."""
    bases = {first_place(base): base for base in reduced(rows, p)}
    nulls = []
    for free in range(width):
        if free not in bases:
            # a 1 there, and at each base's place what takes its product to 0
            null = [-bases[at][free] % p if at in bases else 0 for at in range(width)]
            null[free] = 1
            nulls.append(tuple(null))
    return reduced(nulls, p)


def common(one, other, width, p):
    """Reduced, what follows from both."""
    # a row follows from rows just where it is null to all that is null to them
    return nulls_of(nulls_of(one, width, p) + nulls_of(other, width, p), width, p)


def without(rows, columns, width, p):
    """Reduced, all that follow from rows and have noughts in these columns, which are left out."""
    order = list(columns) + [at for at in range(width) if at not in columns]
    # with the columns ahead of all, what has noughts there is last among the reduced
    turned = reduced([tuple([row[at] for at in order]) for row in rows], p)
    many = len(columns)
    return tuple([row[many:] for row in turned if first_place(row) >= many])


def led_back(row, table, p):
    """The sum of each of the rows of a table times the row's number."""
    return tuple([sum([n * m for n, m in zip(row, column)]) % p for column in zip(*table)])


def terms_of(row):
    """The dict from columns to numbers of a row, noughts left out."""
    return {column: n for column, n in enumerate(row) if n != 0}


def row_of(terms, width):
    """The row of that width with these numbers, and noughts elsewhere."""
    return tuple([terms.get(column, 0) for column in range(width)])


def less_terms(terms, other, k, p):
    """The terms of a row less k times another one."""
    found = dict(terms)
    for column, n in other.items():
        found[column] = (found.get(column, 0) - k * n) % p
    return {column: n for column, n in found.items() if n != 0}


def terms_product(terms, row, p):
    """The product of a row told by its terms with another row."""
    return sum([n * row[column] for column, n in terms.items()]) % p

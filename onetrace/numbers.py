"""Numbers by a prime, names and places, and what holds of tuples of things."""

PRIME = 97
HIGHEST_PRIME = 997
LONGEST_NAME = 8
LONGEST_PLACE = 40
LETTERS = "abcdefghijklmnopqrstuvwxyz"
FIGURES = "0123456789"


def is_whole(thing):
    """Whether a thing is a whole number."""
    # to Python truths are ints, too
    return isinstance(thing, int) and not isinstance(thing, bool)


def is_prime(thing):
    """Whether a thing is a prime from 2 to 997."""
    if not is_whole(thing) or thing < 2 or thing > HIGHEST_PRIME:
        return False
    return all([thing % k != 0 for k in range(2, 32) if k * k <= thing])


def is_number(thing, p):
    """Whether a thing is a number by the prime p."""
    return is_whole(thing) and 0 <= thing < p


def is_name(thing):
    """Whether a thing is a text of 1 to 8 small letters."""
    return isinstance(thing, str) and 1 <= len(thing) <= LONGEST_NAME and has_only(thing, LETTERS)


def is_place(thing):
    """Whether a thing is a text of 1 to 40 small letters, figures and dots, the first a letter."""
    if not isinstance(thing, str) or not 1 <= len(thing) <= LONGEST_PLACE:
        return False
    return thing[0] in LETTERS and has_only(thing, LETTERS + FIGURES + ".")


def has_only(text, signs):
    """Whether all signs of a text are among these."""
    return all([sign in signs for sign in text])


def inverse(n, p):
    """The number which n times is 1, of n from 1."""
    rest, lower = p, n
    many, lower_many = 0, 1
    # rest and lower are always n times their many, but for multiples of p
    while lower != 0:
        whole = rest // lower
        rest, lower = lower, rest - whole * lower
        many, lower_many = lower_many, many - whole * lower_many
    return many % p


def read_figures(text, most):
    """The number that a text of 1 to most figures tells, none with a 0 ahead of others, or None."""
    # the length is looked at first: Python refuses to read thousands of figures
    if not 1 <= len(text) <= most or not has_only(text, FIGURES):
        return None
    if text[0] == "0" and len(text) > 1:
        return None
    return int(text)


def is_tuple(thing, least, most):
    """Whether a thing is a tuple of least to most things."""
    return isinstance(thing, tuple) and least <= len(thing) <= most


def are_unlike(things):
    """Whether no one of some texts or tuples of texts stands twice."""
    return len(set(things)) == len(things)


def do_rise(things):
    """Whether some texts rise, none twice."""
    return all([one < other for one, other in zip(things, things[1:])])


def are_ways(thing, most, size):
    """Whether a thing is a tuple of 1 to most tuples of that size, which begin with rising names."""
    if not is_tuple(thing, 1, most) or not all([is_tuple(way, size, size) for way in thing]):
        return False
    words = [way[0] for way in thing]
    return all([is_name(word) for word in words]) and do_rise(words)

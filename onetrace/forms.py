"""Forms: a number and multiples of places, together."""

from onetrace.numbers import FIGURES, do_rise, is_number, is_place, is_tuple, read_figures


def is_form(thing, p):
    """Whether a thing is a form by p."""
    if not is_tuple(thing, 2, 2):
        return False
    n, terms = thing
    if not is_number(n, p) or not isinstance(terms, tuple):
        return False
    return all([is_term(term, p) for term in terms]) and do_rise([place for place, _ in terms])


def is_term(thing, p):
    """Whether a thing is a pair of a place and a number from 1."""
    return is_tuple(thing, 2, 2) and is_place(thing[0]) and is_number(thing[1], p) and thing[1] != 0


def is_form_over(thing, places, p):
    """Whether a thing is a form by p of no other places than the keys of places."""
    return is_form(thing, p) and all([place in places for place in places_in(thing)])


def new_form(n, pairs, p):
    """The form worth n and each pair's number times its place."""
    worths = {}
    for place, k in pairs:
        worths[place] = (worths.get(place, 0) + k) % p
    return n % p, tuple([(place, worths[place]) for place in sorted(worths) if worths[place] != 0])


def place_form(place):
    """The form worth what a place is."""
    return 0, ((place, 1),)


def sum_of(a, b, p):
    """The form worth both."""
    return new_form(a[0] + b[0], list(a[1]) + list(b[1]), p)


def times_of(a, n, p):
    """The form worth n times a."""
    return new_form(a[0] * n, [(place, k * n) for place, k in a[1]], p)


def put_in(form, forms, p):
    """The form with each place that is a key of forms exchanged for its form, all at once."""
    n, terms = form
    pairs = []
    for place, k in terms:
        more, inner = forms.get(place, place_form(place))
        n = n + more * k
        pairs.extend([(other, many * k) for other, many in inner])
    return new_form(n, pairs, p)


def worth_of(form, worths, p):
    """What a form is worth, where places that have no worth are worth 0."""
    n, terms = form
    return (n + sum([k * worths.get(place, 0) for place, k in terms])) % p


def places_in(form):
    """The places of a form, rising."""
    return tuple([place for place, _ in form[1]])


def form_text(form):
    """A form's text."""
    n, terms = form
    first = [str(n)] if n != 0 or not terms else []
    return "+".join(first + [place if k == 1 else f"{k}{place}" for place, k in terms])


def read_form(text, p):
    """The form by p that has this text, or None."""
    if not isinstance(text, str):
        return None
    parts = text.split("+")
    n = read_figures(parts[0], len(str(p)))
    if n is None:
        form = (0, tuple([term_of(part, p) for part in parts]))
    else:
        form = (n, tuple([term_of(part, p) for part in parts[1:]]))
    # a form has one text alone, so all that is told otherwise shows here
    return form if is_form(form, p) and form_text(form) == text else None


def term_of(part, p):
    """The place and the number that a part of a text tells, if it tells any."""
    place = part.lstrip(FIGURES)
    figures = part[:len(part) - len(place)]
    return place, 1 if figures == "" else read_figures(figures, len(str(p)))

"""Small forms: of all flows that are alike the same one, with as few stopping steps as there can be.

Two stopping steps come to be one where from there on both go along the same letters and tell as much by them, and
the numbers that come count as much in what is told. Then they differ in what they keep alone. What is kept at a step
are worths that are told later, the earliest that aren't sums of multiples of those ahead of them.
"""

from onetrace.finding import Search
from onetrace.flows import Flow
from onetrace.forms import new_form, place_form, places_in, put_in
from onetrace.numbers import inverse
from onetrace.papers import Side, led_terms
from onetrace.spaces import first_place, less, less_terms, terms_product, times_row


def small_of(flow):
    """The small form of a flow."""
    whole = Stops(flow)
    rough = whole.parted({stop: whole.side.shape(stop) for stop in whole.states})
    sights = sights_of(whole, rough)
    marks = whole.parted({stop: (rough[stop], whole.weights(stop, rough, sights)) for stop in whole.states})
    return Small(whole, marks).flow_made()


class Stops:
    """The stopping steps that a flow comes by, the states with which it does, and their ways."""

    def __init__(self, flow):
        self.p = flow.prime()
        self.width = 1 + len(flow.places())
        self.side = Side(flow, 1, self.width)
        search = Search(flow, flow)
        # a flow and itself are alike, so all come by that can come by
        search.parting_letters()
        self.states = {pair[0]: [state[:self.width] for _, state in came] for pair, came in search.came.items()}
        self.ways_by = {stop: self.side.ways_at(stop) for stop in self.states}

    def parted(self, marks):
        """The coarsest marks by which steps that have one have one here, too, and lead to such that have one."""
        told = numbered(marks)
        while True:
            finer = numbered({
                stop: (mark,) + tuple([told[way.goal] for way in self.ways_by[stop]]) for stop, mark in told.items()})
            if len(groups_of(finer)) == len(groups_of(told)):
                return told
            told = finer

    def weights(self, stop, marks, sights):
        """How much the numbers that come at a step count in all that is seen behind it."""
        found = []
        for way in self.ways_by[stop]:
            for view in sights[marks[way.goal]].views:
                terms = led_terms(view[way.goal], way.lead, self.p)
                found.extend([terms.get(self.width + at, 0) for at in range(way.many)])
        return tuple(found)

    def led_view(self, stops, at, view):
        """What is seen at steps of a view behind their way with that number."""
        led = {}
        for stop in stops:
            way = self.ways_by[stop][at]
            terms = led_terms(view[way.goal], way.lead, self.p)
            led[stop] = {column: n for column, n in terms.items() if column < self.width}
        return led

    def views_told(self, stops):
        """The list of the views of what steps tell themselves."""
        told = {stop: self.side.told(stop) for stop in stops}
        return [{stop: told[stop][at] for stop in stops} for at in range(len(told[stops[0]]))]

    def views_led(self, stops, marks, views):
        """The list of what is seen at steps of views behind their ways, in order."""
        led = []
        for at, way in enumerate(self.ways_by[stops[0]]):
            led.extend([self.led_view(stops, at, view) for view in views[marks[way.goal]]])
        return led

    def sight(self, stops):
        """A sight of the states of steps, of which nothing is seen yet."""
        return Sight([(stop, state) for stop in stops for state in self.states[stop]], self.p)


class Sight:
    """Views of the states of some steps: of each step the terms of a worth that is told there or later."""

    def __init__(self, states, p):
        self.states = states
        self.p = p
        self.views = []
        # what views are worth at all states: the place of a 1, that row, and of which views it is the sum; 0 for 1
        self.bases = [(0, (1,) * len(states), {0: 1})]

    def parts_of(self, view):
        """What is left of a view's worths less multiples of those held here, and these multiples."""
        rest = tuple([terms_product(view[stop], state, self.p) for stop, state in self.states])
        parts = {}
        for at, base, inner in self.bases:
            k = rest[at]
            rest = less(rest, base, k, self.p)
            parts = less_terms(parts, inner, self.p - k, self.p)
        return rest, parts

    def holds(self, view):
        """Whether a view tells something new; it is held here, if so or not."""
        self.views.append(view)
        rest, parts = self.parts_of(view)
        at = first_place(rest)
        if at == len(rest):
            return False
        share = inverse(rest[at], self.p)
        own = less_terms({}, less_terms(parts, {len(self.views): 1}, 1, self.p), share, self.p)
        self.bases.append((at, times_row(rest, share, self.p), own))
        return True

    def sees(self, come):
        """The list of those views that tell something new; these alone are held here."""
        new = []
        for view in come:
            if self.holds(view):
                new.append(view)
            else:
                self.views.pop()
        return new


def sights_of(whole, marks):
    """Of each mark a sight that tells all that is told from its steps on."""
    groups = groups_of(marks)
    sights = {mark: whole.sight(stops) for mark, stops in groups.items()}
    new = {mark: sights[mark].sees(whole.views_told(stops)) for mark, stops in groups.items()}
    while any([len(views) > 0 for views in new.values()]):
        new = {mark: sights[mark].sees(whole.views_led(stops, marks, new)) for mark, stops in groups.items()}
    return sights


def numbered(marks):
    """Numbers in the place of marks."""
    numbers = {}
    for mark in marks.values():
        numbers.setdefault(mark, len(numbers))
    return {stop: numbers[mark] for stop, mark in marks.items()}


def groups_of(marks):
    """Of each mark the list of its steps."""
    groups = {}
    for stop, mark in marks.items():
        groups.setdefault(mark, []).append(stop)
    return groups


def kept_place(at):
    """The place that holds what is seen by the view with that number."""
    return f"k{at + 1}"


def came_place(at):
    """The place of a number that came, where it can't be put to where it is kept."""
    return f"c{at + 1}"


class Small:
    """The small form as it is made: of each mark a step, and the moves ahead of it."""

    def __init__(self, whole, marks):
        self.stops = whole
        self.marks = marks
        self.groups = groups_of(marks)
        self.sights = sights_of(whole, marks)
        # where all begins places hold 0: there they hold by how much more a worth is than at first
        first = self.sights[marks[0]]
        self.firsts = [terms_product(view[0], whole.states[0][0], whole.p) for view in first.views]
        for mark, stops in self.groups.items():
            if self.is_last(mark):
                self.sights[mark] = self.end_sight(stops)
        many = max([len(sight.views) for sight in self.sights.values()])
        self.spots = [kept_place(at) for at in range(many)]
        self.order = self.marks_in_order()
        self.moves = {}
        self.came = {}

    def ways_of(self, mark):
        """The ways of the first step of a mark; those of the others lead to steps of the same marks."""
        return self.stops.ways_by[self.groups[mark][0]]

    def is_last(self, mark):
        """Whether steps of a mark end a call."""
        return self.ways_of(mark)[0].goal == 0

    def end_sight(self, stops):
        """The sight of steps that end a call: no move is behind them, so they keep all that is kept behind them."""
        sight = self.stops.sight(stops)
        for view in list(self.sights[self.marks[0]].views):
            sight.holds({stop: view[0] for stop in stops})
        sight.sees(self.stops.views_told(stops))
        return sight

    def marks_in_order(self):
        """The list of all marks as they come, from the begin on."""
        order = {self.marks[0]: True}
        waiting = [self.marks[0]]
        while waiting:
            goals = [self.marks[way.goal] for mark in waiting for way in self.ways_of(mark)]
            waiting = list({goal: True for goal in goals if goal not in order})
            order.update({goal: True for goal in waiting})
        return list(order)

    def shift(self, mark, at):
        """By how much more the view with that number is worth than what its place holds."""
        has_shift = (mark == self.marks[0] or self.is_last(mark)) and at < len(self.firsts)
        return self.firsts[at] if has_shift else 0

    def form_at(self, mark, view):
        """The form that is worth a view at the step of a mark."""
        parts = self.sights[mark].parts_of(view)[1]
        n = sum([k * self.shift(mark, at - 1) for at, k in parts.items() if at != 0])
        pairs = [(kept_place(at - 1), k) for at, k in parts.items() if at != 0]
        return new_form(parts.get(0, 0) + n, pairs, self.stops.p)

    def form_behind(self, mark, at, number):
        """The form that is worth what a place is to hold behind a way of the step of a mark."""
        way = self.ways_of(mark)[at]
        goal = self.marks[way.goal]
        view = self.sights[goal].views[number]
        n, terms = self.form_at(mark, self.stops.led_view(self.groups[mark], at, view))
        led = led_terms(view[way.goal], way.lead, self.stops.p)
        come = [(came_place(one), led.get(self.stops.width + one, 0)) for one in range(way.many)]
        return new_form(n - self.shift(goal, number), list(terms) + come, self.stops.p)

    def step_behind(self, mark, at):
        """The places to which the numbers are put that come by a way, and the step to which it leads then."""
        way = self.ways_of(mark)[at]
        goal = self.marks[way.goal]
        forms = [self.form_behind(mark, at, number) for number in range(len(self.sights[goal].views))]
        params = params_of(way.many, forms, self.spots)
        puts = {came_place(one): place_form(param) for one, param in enumerate(params) if param != ""}
        moved = [(kept_place(number), put_in(form, puts, self.stops.p)) for number, form in enumerate(forms)]
        pairs = tuple([(place, form) for place, form in moved if form != place_form(place)])
        self.came.update({came_place(one): True for one in range(way.many) if params[one] == came_place(one)})
        to = self.order.index(goal)
        if pairs:
            to = self.moves.setdefault(("move", pairs, to), len(self.order) + len(self.moves))
        return params, to

    def step_of(self, mark):
        """The stopping step of a mark."""
        shape = self.stops.side.shape(self.groups[mark][0])
        told = tuple([self.form_at(mark, view) for view in self.stops.views_told(self.groups[mark])])
        if self.is_last(mark):
            return shape + told
        ways = self.ways_of(mark)
        behind = [self.step_behind(mark, at) for at in range(len(ways))]
        if shape[0] == "serve":
            return ("serve", tuple([(way.word, params, to) for way, (params, to) in zip(ways, behind)]))
        if shape[0] == "pick":
            return ("pick", tuple([(way.word, to) for way, (_, to) in zip(ways, behind)]))
        params, to = behind[0]
        if shape[0] == "ask":
            return shape[:3] + (told,) + params + (to, behind[1][1])
        return shape + told + params + (to,)

    def flow_made(self):
        """The flow of all steps."""
        steps = [self.step_of(mark) for mark in self.order] + list(self.moves)
        return Flow(tuple(self.spots + sorted(self.came)), tuple(steps), prime=self.stops.p)


def params_of(many, forms, spots):
    """Where so many numbers are put that come: to where they are kept, or to where nothing is that is needed.

    The forms are those of all that is kept then; a number that is in none of them goes nowhere.
    """
    needed = {place: True for form in forms for place in places_in(form)}
    free = [place for place in spots if place not in needed]
    params = {}
    for at in range(many):
        own = [spot for spot, form in zip(spots, forms) if spot in free and form == place_form(came_place(at))]
        if own:
            params[at] = own[0]
            free.remove(own[0])
        elif came_place(at) not in needed:
            params[at] = ""
    for at in range(many):
        if at not in params:
            params[at] = free.pop(0) if free else came_place(at)
    return tuple([params[at] for at in range(many)])

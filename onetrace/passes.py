"""Passes: what makes code shorter, alike with what it was."""

from onetrace.coded import REGISTERS, Coded
from onetrace.errors import NoStyle

PASSES = ("short", "dead", "known")
PUTTING = ("set", "copy", "plus", "times")
# what puts to the place that it names, and what looks at it
PUTS = ("set", "copy", "plus", "times", "pop", "take")
LOOKS = ("plus", "times", "push", "out")


def passed(unit, word):
    """The coded unit that a pass makes of one."""
    if word not in PASSES:
        raise NoStyle("there is no such pass")
    make = MAKES[word]
    deeds = [(name, many, tuple(make(code, many, unit.prime()))) for name, many, code in unit.deeds()]
    return Coded(unit.hidden(), tuple(deeds), prime=unit.prime())


def goals_of(step):
    """The list of the numbers of instructions that an instruction names."""
    if step[0] == "pick":
        return [to for _, to in step[1]]
    if step[0] == "go":
        return [step[1]]
    return [step[4]] if step[0] == "ask" else []


def with_goals(step, goals):
    """An instruction that names others."""
    if step[0] == "pick":
        return "pick", tuple([(word, to) for (word, _), to in zip(step[1], goals)])
    return step[:len(step) - len(goals)] + tuple(goals)


def nexts_of(code, at):
    """The list of the numbers of instructions to which one leads; behind the last one there is none."""
    goals = goals_of(code[at])
    if code[at][0] not in ("go", "pick", "ret", "fail"):
        goals.append(at + 1)
    return [to for to in goals if to < len(code)]


def left_of(code, keeps):
    """Those instructions of a code that are kept, by their new numbers; who led to another one leads behind it."""
    numbers = []
    many = 0
    for is_kept in keeps:
        numbers.append(many)
        many += 1 if is_kept else 0
    left = [with_goals(step, [numbers[to] for to in goals_of(step)]) for step, is_kept in zip(code, keeps) if is_kept]
    if any([many in goals_of(step) for step in left]):
        # it led behind the last one, where there is none to lead to
        left.append(("fail", "end"))
    return left


def short_code(code, _many, _p):
    """A code without needless ways: no go to a go, none to what is behind it, nothing to which no way leads."""
    left = list(code)
    while True:
        straight = [with_goals(step, [end_of(left, to) for to in goals_of(step)]) for step in left]
        reached = reached_in(straight)
        keeps = [is_reached and not leads_behind(straight, at, reached) for at, is_reached in enumerate(reached)]
        if all(keeps):
            return straight
        left = left_of(straight, keeps)


def end_of(code, at):
    """The first instruction that is no go, from one on."""
    while code[at][0] == "go":
        at = code[at][1]
    return at


def reached_in(code):
    """Of each instruction whether a way leads to it from the first one."""
    reached = [False for _ in code]
    waiting = [0] if code else []
    while waiting:
        at = waiting.pop()
        if not reached[at]:
            reached[at] = True
            waiting.extend(nexts_of(code, at))
    return reached


def leads_behind(code, at, reached):
    """Whether an instruction is a go to the next one that is reached."""
    return code[at][0] == "go" and at < code[at][1] and not any(reached[at + 1:code[at][1]])


def dead_code(code, _many, _p):
    """A code without what puts to registers that aren't looked at then."""
    left = list(code)
    while True:
        needed = needed_behind(left)
        keeps = [step[0] not in PUTTING or step[1] not in REGISTERS or needed[at] & mark_of(step[1]) != 0
                 for at, step in enumerate(left)]
        if all(keeps):
            return left
        left = left_of(left, keeps)


def mark_of(place):
    """The number that stands for a register among others, 0 of a cell: many are told as the sum of theirs."""
    return 1 << REGISTERS.index(place) if place in REGISTERS else 0


def looked_at(step):
    """The marks of the registers that an instruction looks at."""
    if step[0] == "ask":
        return sum([mark_of(place) for place in REGISTERS[:step[3]]])
    if step[0] == "ret":
        return mark_of(REGISTERS[0])
    if step[0] == "copy":
        return mark_of(step[2])
    marks = mark_of(step[1]) if step[0] in LOOKS else 0
    return marks | mark_of(step[2]) if step[0] == "plus" else marks


def needed_behind(code):
    """Of each instruction the marks of the registers that are looked at on some way behind it, ahead of being put."""
    # behind the last one nothing is looked at
    ahead = [0 for _ in code] + [0]
    behind = [0 for _ in code]
    is_new = True
    while is_new:
        is_new = False
        for at in reversed(range(len(code))):
            behind[at], marks = needed_at(code, at, ahead)
            if marks != ahead[at]:
                ahead[at] = marks
                is_new = True
    return behind


def needed_at(code, at, ahead):
    """The marks of what is needed behind an instruction, and of what is needed ahead of it."""
    step = code[at]
    behind, kept = 0, 0
    for to in nexts_of(code, at):
        behind = behind | ahead[to]
    if step[0] == "ask":
        # at a fault all registers stay, else the first one is put
        first = mark_of(REGISTERS[0])
        kept = ahead[step[4]] | ahead[at + 1] & ~first
    else:
        put = mark_of(step[1]) if step[0] in PUTS else 0
        kept = behind & ~put
    return behind, looked_at(step) | kept


def known_code(code, many, p):
    """A code in which what is known is set, and what changes nothing is left out."""
    states = states_in(code, many, p)
    made = [step if state is None else folded(step, state, p) for step, state in zip(code, states)]
    keeps = [step is not None for step in made]
    return left_of([step if step is not None else ("ret",) for step in made], keeps)


def states_in(code, many, p):
    """Of each instruction the tuple of what registers are known to hold there, or None where no way leads to it."""
    states = [None for _ in code]
    waiting = []
    arrives(states, 0, (None,) * many + (0,) * (len(REGISTERS) - many), waiting)
    while waiting:
        at = waiting.pop()
        led = led_from(code[at], at, states[at], p)
        for to, state in led:
            arrives(states, to, state, waiting)
    return states


def arrives(states, at, state, waiting):
    """A way leads to an instruction with this state: what is known there otherwise is known no more."""
    if at == len(states):
        return
    known = state
    if states[at] is not None:
        known = tuple([n if n == m else None for n, m in zip(states[at], state)])
    if known != states[at]:
        states[at] = known
        waiting.append(at)


def led_from(step, at, state, p):
    """The list of the pairs of an instruction to which one leads and what is known then."""
    behind = state
    if step[0] in PUTS:
        behind = put_to(state, step[1], outcome(step, state, p))
    led = [(to, behind) for to in goals_of(step)]
    if step[0] == "ask":
        # at a fault all registers stay
        behind = put_to(state, REGISTERS[0], None)
    if step[0] not in ("go", "pick", "ret", "fail"):
        led.append((at + 1, behind))
    return led


def known_at(state, place):
    """What a register is known to hold, or None; of cells nothing is known."""
    return state[REGISTERS.index(place)] if place in REGISTERS else None


def put_to(state, place, n):
    """What is known where a place has come to be a number, or None for one that isn't known."""
    return tuple([n if spot == place else m for spot, m in zip(REGISTERS, state)])


def outcome(step, state, p):
    """The number that an instruction puts, or None where it isn't known."""
    if step[0] == "set":
        return step[2]
    if step[0] == "copy":
        return known_at(state, step[2])
    if step[0] not in ("plus", "times"):
        return None
    n = known_at(state, step[1])
    more = known_at(state, step[2]) if step[0] == "plus" else step[2]
    if step[0] == "times" and more == 0:
        return 0
    if n is None or more is None:
        return None
    return (n + more if step[0] == "plus" else n * more) % p


def folded(step, state, p):
    """What an instruction is where this is known, or None where it is left out."""
    if changes_nothing(step, state):
        return None
    n = outcome(step, state, p)
    if n is None:
        return step
    return None if known_at(state, step[1]) == n else ("set", step[1], n)


def changes_nothing(step, state):
    """Whether an instruction is a copy of a place to itself, a plus of a known 0 or a times by 1."""
    if step[0] == "copy":
        return step[1] == step[2]
    if step[0] == "plus":
        return known_at(state, step[2]) == 0
    return step[0] == "times" and step[2] == 1


MAKES = {"short": short_code, "dead": dead_code, "known": known_code}

"""Units for houses that the tests share, and a second, plain house that does all its deeds anew each time."""

from onetrace.coded import Coded
from onetrace.compiling import compiled
from onetrace.errors import NoText, TooMany
from onetrace.codetexts import read_coded
from onetrace.finding import found
from onetrace.leading import flow_of
from onetrace.linking import linked
from onetrace.passes import passed
from onetrace.written import Written
from onetrace.writtentexts import read_written


def unit(text, p=97):
    """A unit of a text without its prime; rows within one another may stand as they like."""
    rows, depth, last = [f"prime {p}"], 0, ""
    for row in text.strip().split("\n"):
        word = row.split()[0]
        # a way stands as far in as its pick or loop, and so does what follows right behind these
        depth -= word in ("end", "way") and last not in ("pick", "loop")
        rows.append("  " * depth + row.strip())
        depth += word in ("deed", "way", "fault")
        last = word
    text = "\n".join(rows) + "\n"
    try:
        return read_written(text)
    except NoText:
        return read_coded(text)


LIB = unit("""
hidden sum
deed add a
let sum a+sum
return sum
end
deed get
return sum
end
deed one
return 1
end
""")
# alike with it: sums are kept twice as large, or it is code
LIB_TWICE = unit("""
hidden two
deed get
return 49two
end
deed one
return 1
end
deed add n
let two 2n+two
return 49two
end
""")
LIB_CODE = passed(compiled(LIB), "known")
# it does otherwise: in the second call, or in a deed alone
LIB_LATE = unit("""
hidden sum
deed add a
let sum a+2sum
return sum
end
deed get
return sum
end
deed one
return 1
end
""")
LIB_TWO = unit("""
hidden sum
deed add a
let sum a+sum
return sum
end
deed get
return sum
end
deed one
return 2
end
""")
# other deeds, and another prime
LIB_LESS = unit("""
hidden sum
deed add a
let sum a+sum
return sum
end
deed get
return sum
end
""")
LIB_WIDE = unit("""
hidden
deed add a b
return a+b
end
deed get
return 0
end
deed one
return 1
end
""")
LIB_PRIME = unit("""
hidden sum
deed add a
let sum a+sum
return sum
end
deed get
return sum
end
deed one
return 1
end
""", 89)
# it asks one of lib; the second one does by itself what that does; the third one asks twice
MAIN = unit("""
hidden
deed main a
ask n lib one
out a+n
ask n lib add a
return n
end
""")
MAIN_SELF = unit("""
hidden
deed main a
out 1+a
ask n lib add a
return n
end
""")
MAIN_CODE = passed(compiled(MAIN, style="near"), "dead")
MAIN_MORE = unit("""
hidden
deed main a
ask n lib one
out a+n
ask n box add a
ask n lib add a
return n
end
""")
MAIN_WORD = unit("""
hidden
deed main a
ask n lib one
out a+n
ask n lib get
ask n lib add a+96n
return n
end
""")
TOP = unit("""
hidden
deed run
take a
ask b main main a
out b
ask b lib add 1
out b
end
""")
TOP_BOX = unit("""
hidden
deed run
take a
ask b main main a
out b
ask b box add 1
out b
end
""")
TOP_ROUND = unit("""
hidden
deed add a
ask b top run
end
deed get
end
deed one
end
""")
POOL = [LIB, LIB_TWICE, LIB_CODE, LIB_LATE, LIB_TWO, LIB_LESS, LIB_WIDE, LIB_PRIME, MAIN, MAIN_SELF, MAIN_CODE, MAIN_MORE,
        MAIN_WORD, TOP, TOP_BOX, TOP_ROUND]
LIBS = POOL[:8] + POOL[:3] * 2
MAINS = POOL[8:13]
TOPS = POOL[13:15]


class Refused(Exception):
    """A word and a field."""


def deeds_of(unit):
    return dict(flow_of(unit).deeds())


def asked_by(unit):
    return sorted({asked for asked, _, _ in unit.asks()})


def within(units, name):
    """The names whose units are in a whole, each as often as it is there."""
    return [name] + [inner for asked in asked_by(units[name]) for inner in within(units, asked)]


def whole_of(units, name):
    flow = flow_of(units[name])
    for asked in asked_by(units[name]):
        flow = linked(flow, asked, whole_of(units, asked))
    return flow


class PlainHouse:
    def __init__(self):
        self.past = []
        self.again()

    def again(self):
        """All deeds that stand, from the begin on."""
        self.units, self.standing, self.claims = {}, {}, 0
        for deed in self.past:
            self.done(deed)

    def do(self, *deed):
        """What a deed tells; or ("refused", word, field)."""
        try:
            told = self.done(deed)
        except Refused as refused:
            self.again()
            return ("refused", *refused.args)
        self.past.append(deed)
        return told

    def undo(self):
        if not self.past:
            return False
        self.past.pop()
        self.again()
        return True

    def done(self, deed):
        return {"put": self.put, "drop": self.drop, "claim": self.claim}[deed[0]](*deed[1:])

    def name(self, name, here=True):
        if not isinstance(name, str) or not 1 <= len(name) <= 8 or not name.isalpha() or not name.islower() or (
                here and name not in self.units):
            raise Refused("NoName", name)

    def put(self, name, unit):
        self.name(name, False)
        if not isinstance(unit, (Written, Coded)):
            raise Refused("NoUnit", None)
        ahead = dict(self.units)
        behind = {**ahead, name: unit}
        for asked in asked_by(unit):
            if asked not in behind:
                raise Refused("NoName", asked)
        seen, waiting = set(), asked_by(unit)
        while waiting:
            asked = waiting.pop()
            if asked == name:
                raise Refused("Round", name)
            if asked not in seen:
                seen.add(asked)
                waiting += asked_by(behind[asked])
        for asker, other in behind.items():
            for asked, deed, many in other.asks():
                if deeds_of(behind[asked]).get(deed) != many or behind[asked].prime() != other.prime():
                    raise Refused("NoPair", None)
        for one, other, _ in self.standing.values():
            self.matching(behind[one], behind[other])
        try:
            wholes = {other: whole_of(behind, other) for other in behind}
        except TooMany:
            raise Refused("TooMany", None)
        told = []
        for number, (one, other, paper) in sorted(self.standing.items()):
            ins = within(behind, one) + within(behind, other)
            others = [inner for inner in ins if inner in ahead and not ahead[inner] == behind[inner]]
            was = within(ahead, one) + within(ahead, other)
            word, why = found(wholes[one], wholes[other])
            if not others and sorted(was) == sorted(ins):
                told.append((number, "stays", paper))
            elif word == "unlike":
                told.append((number, "fell", why))
            else:
                is_led = all(deeds_of(ahead[inner]) == deeds_of(behind[inner]) and ahead[inner].prime() == behind[inner].prime()
                             and found(flow_of(ahead[inner]), flow_of(behind[inner]))[0] == "like"
                             for inner in others if inner in was)
                told.append((number, "led" if is_led else "renewed", why))
        self.units = behind
        for number, word, why in told:
            if word == "fell":
                del self.standing[number]
            else:
                self.standing[number] = (*self.standing[number][:2], why)
        return told

    def matching(self, one, other):
        if deeds_of(one) != deeds_of(other) or one.prime() != other.prime():
            raise Refused("NoPair", None)

    def drop(self, name):
        self.name(name)
        for asker in sorted(self.units):
            if name in asked_by(self.units[asker]):
                raise Refused("Asked", asker)
        for number, (one, other, _) in sorted(self.standing.items()):
            if name in (one, other):
                raise Refused("Claimed", number)
        del self.units[name]

    def claim(self, one, other):
        self.name(one)
        self.name(other)
        self.matching(self.units[one], self.units[other])
        word, why = found(whole_of(self.units, one), whole_of(self.units, other))
        if word == "unlike":
            raise Refused("Unlike", why)
        self.claims += 1
        self.standing[self.claims] = (one, other, why)
        return self.claims


def some_deed(chance, names=("lib", "box", "main", "top")):
    """A deed that comes by chance; often it can be done."""
    word = chance.choice(("put",) * 5 + ("claim",) * 3 + ("drop",))
    name = chance.choice(names)
    if word == "put":
        pool = {"lib": LIBS, "box": LIBS, "main": MAINS, "top": TOPS}[name] if chance.random() < 0.93 else POOL
        return word, name, chance.choice(pool)
    if word == "drop":
        return word, name
    return word, name, chance.choice([name, {"lib": "box", "box": "lib"}.get(name, name), chance.choice(names)])

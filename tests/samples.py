"""What several tests need: small parts, wrong things of every kind, chance programs, and a writer of texts."""

import random

ONE = ("number", 1)
X = ("name", "x")
DO = ("do", ONE)
EMPTY = ("try", (), "any", "e", (), ())

# A good part for each head; those with a head of statements stand in the body of a program.
TERMS = {
    "number": ("number", 12),
    "name": ("name", "x"),
    "two": ("two", "+", ONE, X),
    "fun": ("fun", ("x", "y"), (("let", "z", ONE), ("back", X))),
    "loop": ("loop", ("x", "y"), (("hand", X), DO)),
    "call": ("call", X, (ONE, ("number", 2), X)),
    "step": ("step", X, ONE),
}
STATEMENTS = {
    "let": ("let", "x", ONE),
    "set": ("set", "x", ONE),
    "do": ("do", X),
    "if": ("if", X, (DO, ("back", ONE)), (("hand", X),)),
    "while": ("while", X, (DO, ("hand", X))),
    "hand": ("hand", X),
    "back": ("back", X),
    "fault": ("fault", "oh", X),
    "try": ("try", (DO, DO), "any", "x", (("hand", X),), (("back", X), DO, DO)),
}


class Other:
    """A thing of a kind that nothing here wants."""


class Alike:
    """A thing that claims to be like any other."""

    def __eq__(self, other):
        return True

    __hash__ = None


class Sulky:
    """A thing that can't be compared."""

    def __eq__(self, other):
        raise RuntimeError("not to be compared")

    __hash__ = None


def nested(depth, kind):
    """A list or tuple that stands that deep in others."""
    inner = kind()
    for k in range(depth):
        inner = kind([inner])
    return inner


def odd_things():
    """Things of many kinds that are no name, number, sign, term, statement, body or program."""
    endless = []
    endless.append(endless)
    return [
        None, True, False, 1.0, 0.0, float("nan"), float("inf"), 1j, b"x", b"", bytearray(b"main"), "", " ", "X", "x ",
        10 ** 12 + 1, -(10 ** 12) - 1, 10 ** 5000, [], {}, set(), {"x"}, frozenset(), range(3), Other(), Other, len,
        ["x"], ["main", [], []], ["main", (), ()], {"main": 1}, (None,), ((),), ([],), ({},), ((), ()), (1,), (True,),
        ("",), ("main", 1), ("Main", (), ()), nested(5000, tuple), nested(5000, list), (nested(5000, tuple),),
        Alike(), (Alike(), (), ()), Sulky(), (Sulky(), (), ()), endless, (endless,), iter(()), slice(1),
        NotImplemented, ..., Exception("main"), "x" * 100000, ("x",) * 100000,
    ]


def program(*statements):
    return ("main", (), statements)


def deep_term(depth):
    """A term of this depth."""
    term = ONE
    for k in range(depth - 1):
        term = ("step", term, ONE) if k % 2 else ("two", "-", ONE, term)
    return term


def wide_program(size):
    """A program with that many parts, from 1 on, that isn't deep."""
    rows = []
    left = size - 1
    while left > 0:
        rows.append(wide_statement(min(left, 50)))
        left -= count(rows[-1])
    return program(*rows)


def wide_statement(size):
    """A statement with that many parts, from 1 to 50."""
    if size == 1:
        return EMPTY
    inner_ones = [DO] * ((size - 2) // 2) + [EMPTY] * (size % 2)
    return ("if", ONE, tuple(inner_ones[:12]), tuple(inner_ones[12:]))


def written(part):
    """The text of a part, by a plain walk that owes nothing to the program."""
    head = part[0]
    if head == "number":
        return str(part[1])
    if head == "name":
        return part[1]
    if head == "two":
        return "(" + " ".join([part[1], written(part[2]), written(part[3])]) + ")"
    if head in ("main", "fun", "loop"):
        return "(" + " ".join([head, "(" + " ".join(part[1]) + ")"] + [written(one) for one in part[2]]) + ")"
    if head == "call":
        return "(" + " ".join([head, written(part[1])] + [written(one) for one in part[2]]) + ")"
    words = [head]
    for thing in part[1:]:
        if isinstance(thing, str):
            words.append(thing)
        elif thing and isinstance(thing[0], str):
            words.append(written(thing))
        else:
            words.append("(" + " ".join([written(one) for one in thing]) + ")")
    return "(" + " ".join(words) + ")"


NAMES = ("x", "y", "main", "let", "call", "any", "fun", "if", "try", "number", "abcdefgh", "zzzzzzzz", "two", "hand")


class Chance:
    """Chance programs, the same ones for the same seed."""

    def __init__(self, seed):
        self.dice = random.Random(seed)

    def names(self):
        return tuple(self.dice.sample(NAMES, self.dice.randrange(5)))

    def name(self):
        return self.dice.choice(NAMES)

    def body(self, depth, hands):
        if depth < 1:
            return ()
        return tuple([self.statement(depth, hands) for k in range(self.dice.choice((0, 1, 1, 2, 3)))])

    def statement(self, depth, hands):
        heads = [head for head in STATEMENTS if head != "hand" or hands]
        head = self.dice.choice(heads)
        if depth < 2:
            return ("try", (), self.name(), self.name(), (), ())
        if head in ("let", "set"):
            return (head, self.name(), self.term(depth - 1))
        if head == "fault":
            return (head, "any" + self.dice.choice("abc"), self.term(depth - 1))
        if head == "if":
            return (head, self.term(depth - 1), self.body(depth - 1, hands), self.body(depth - 1, hands))
        if head == "while":
            return (head, self.term(depth - 1), self.body(depth - 1, hands))
        if head == "try":
            bodies = [self.body(depth - 1, hands) for k in range(3)]
            return (head, bodies[0], self.name(), self.name(), bodies[1], bodies[2])
        return (head, self.term(depth - 1))

    def term(self, depth):
        head = self.dice.choice(list(TERMS))
        if depth < 2 or head in ("number", "name"):
            if head == "name":
                return ("name", self.name())
            return ("number", self.dice.choice((0, 1, -1, 12, -120, 10 ** 12, -(10 ** 12))))
        if head == "two":
            return (head, self.dice.choice("+-*<="), self.term(depth - 1), self.term(depth - 1))
        if head == "step":
            return (head, self.term(depth - 1), self.term(depth - 1))
        if head == "call":
            terms = [self.term(depth - 1) for k in range(self.dice.randrange(5))]
            return (head, self.term(depth - 1), tuple(terms))
        return (head, self.names(), self.body(depth - 1, head == "loop"))

    def program(self):
        """A program of at most 300 parts, and of a text that can be read."""
        while True:
            found = ("main", self.names(), self.body(self.dice.randrange(1, 8), True))
            if count(found) <= 300 and len(written(found)) <= 6000:
                return found


def inner(part):
    """The parts right in a part, told head by head."""
    head = part[0]
    if head in ("number", "name"):
        return []
    if head == "two":
        return [part[2], part[3]]
    if head in ("main", "fun", "loop"):
        return list(part[2])
    if head == "call":
        return [part[1]] + list(part[2])
    if head == "step":
        return [part[1], part[2]]
    if head in ("let", "set", "fault"):
        return [part[2]]
    if head == "if":
        return [part[1]] + list(part[2]) + list(part[3])
    if head == "while":
        return [part[1]] + list(part[2])
    if head == "try":
        return list(part[1]) + list(part[4]) + list(part[5])
    return [part[1]]


def count(part):
    return 1 + sum([count(one) for one in inner(part)])


def height(part):
    return 1 + max([height(one) for one in inner(part)], default=0)


def all_parts(part):
    found = [part]
    for one in inner(part):
        found.extend(all_parts(one))
    return found

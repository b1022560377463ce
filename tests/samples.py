"""What several tests need: small parts, wrong things of every kind, chance programs, and a writer of texts."""

import random

ONE = ("number", 1)
X = ("name", "x")
DO = ("do", ONE)
EMPTY = ("try", (), "any", "e", (), ())

# A good part for each head; those with a head of statements stand in the body of a program.
TERMS = {
    "number": ("number", 12),
    "name": ("name", "x"),
    "two": ("two", "+", ONE, X),
    "fun": ("fun", ("x", "y"), (("let", "z", ONE), ("back", X))),
    "loop": ("loop", ("x", "y"), (("hand", X), DO)),
    "call": ("call", X, (ONE, ("number", 2), X)),
    "step": ("step", X, ONE),
}
STATEMENTS = {
    "let": ("let", "x", ONE),
    "set": ("set", "x", ONE),
    "do": ("do", X),
    "if": ("if", X, (DO, ("back", ONE)), (("hand", X),)),
    "while": ("while", X, (DO, ("hand", X))),
    "hand": ("hand", X),
    "back": ("back", X),
    "fault": ("fault", "oh", X),
    "try": ("try", (DO, DO), "any", "x", (("hand", X),), (("back", X), DO, DO)),
}


class Other:
    """A thing of a kind that nothing here wants."""


class Alike:
    """A thing that claims to be like any other."""

    def __eq__(self, other):
        return True

    __hash__ = None


class Sulky:
    """A thing that can't be compared."""

    def __eq__(self, other):
        raise RuntimeError("not to be compared")

    __hash__ = None


def nested(depth, kind):
    """A list or tuple that stands that deep in others."""
    inner = kind()
    for k in range(depth):
        inner = kind([inner])
    return inner


def odd_things():
    """Things of many kinds that are no name, number, sign, term, statement, body or program."""
    endless = []
    endless.append(endless)
    return [
        None, True, False, 1.0, 0.0, float("nan"), float("inf"), 1j, b"x", b"", bytearray(b"main"), "", " ", "X", "x ",
        10 ** 12 + 1, -(10 ** 12) - 1, 10 ** 5000, [], {}, set(), {"x"}, frozenset(), range(3), Other(), Other, len,
        ["x"], ["main", [], []], ["main", (), ()], {"main": 1}, (None,), ((),), ([],), ({},), ((), ()), (1,), (True,),
        ("",), ("main", 1), ("Main", (), ()), nested(5000, tuple), nested(5000, list), (nested(5000, tuple),),
        Alike(), (Alike(), (), ()), Sulky(), (Sulky(), (), ()), endless, (endless,), iter(()), slice(1),
        NotImplemented, ..., Exception("main"), "x" * 100000, ("x",) * 100000,
    ]


def program(*statements):
    return ("main", (), statements)


def deep_term(depth):
    """A term of this depth."""
    term = ONE
    for k in range(depth - 1):
        term = ("step", term, ONE) if k % 2 else ("two", "-", ONE, term)
    return term


def wide_program(size):
    """A program with that many parts, from 1 on, that isn't deep."""
    rows = []
    left = size - 1
    while left > 0:
        rows.append(wide_statement(min(left, 50)))
        left -= count(rows[-1])
    return program(*rows)


def wide_statement(size):
    """A statement with that many parts, from 1 to 50."""
    if size == 1:
        return EMPTY
    inner_ones = [DO] * ((size - 2) // 2) + [EMPTY] * (size % 2)
    return ("if", ONE, tuple(inner_ones[:12]), tuple(inner_ones[12:]))


def written(part):
    """The text of a part, by a plain walk that owes nothing to the program."""
    head = part[0]
    if head == "number":
        return str(part[1])
    if head == "name":
        return part[1]
    if head == "two":
        return "(" + " ".join([part[1], written(part[2]), written(part[3])]) + ")"
    if head in ("main", "fun", "loop"):
        return "(" + " ".join([head, "(" + " ".join(part[1]) + ")"] + [written(one) for one in part[2]]) + ")"
    if head == "call":
        return "(" + " ".join([head, written(part[1])] + [written(one) for one in part[2]]) + ")"
    words = [head]
    for thing in part[1:]:
        if isinstance(thing, str):
            words.append(thing)
        elif thing and isinstance(thing[0], str):
            words.append(written(thing))
        else:
            words.append("(" + " ".join([written(one) for one in thing]) + ")")
    return "(" + " ".join(words) + ")"


NAMES = ("x", "y", "main", "let", "call", "any", "fun", "if", "try", "number", "abcdefgh", "zzzzzzzz", "two", "hand")


class Chance:
    """Chance programs, the same ones for the same seed."""

    def __init__(self, seed):
        self.dice = random.Random(seed)

    def names(self):
        return tuple(self.dice.sample(NAMES, self.dice.randrange(5)))

    def name(self):
        return self.dice.choice(NAMES)

    def body(self, depth, hands):
        if depth < 1:
            return ()
        return tuple([self.statement(depth, hands) for k in range(self.dice.choice((0, 1, 1, 2, 3)))])

    def statement(self, depth, hands):
        heads = [head for head in STATEMENTS if head != "hand" or hands]
        head = self.dice.choice(heads)
        if depth < 2:
            return ("try", (), self.name(), self.name(), (), ())
        if head in ("let", "set"):
            return (head, self.name(), self.term(depth - 1))
        if head == "fault":
            return (head, "any" + self.dice.choice("abc"), self.term(depth - 1))
        if head == "if":
            return (head, self.term(depth - 1), self.body(depth - 1, hands), self.body(depth - 1, hands))
        if head == "while":
            return (head, self.term(depth - 1), self.body(depth - 1, hands))
        if head == "try":
            bodies = [self.body(depth - 1, hands) for k in range(3)]
            return (head, bodies[0], self.name(), self.name(), bodies[1], bodies[2])
        return (head, self.term(depth - 1))

    def term(self, depth):
        head = self.dice.choice(list(TERMS))
        if depth < 2 or head in ("number", "name"):
            if head == "name":
                return ("name", self.name())
            return ("number", self.dice.choice((0, 1, -1, 12, -120, 10 ** 12, -(10 ** 12))))
        if head == "two":
            return (head, self.dice.choice("+-*<="), self.term(depth - 1), self.term(depth - 1))
        if head == "step":
            return (head, self.term(depth - 1), self.term(depth - 1))
        if head == "call":
            terms = [self.term(depth - 1) for k in range(self.dice.randrange(5))]
            return (head, self.term(depth - 1), tuple(terms))
        return (head, self.names(), self.body(depth - 1, head == "loop"))

    def program(self):
        """A program of at most 300 parts, and of a text that can be read."""
        while True:
            found = ("main", self.names(), self.body(self.dice.randrange(1, 8), True))
            if count(found) <= 300 and len(written(found)) <= 6000:
                return found


def inner(part):
    """The parts right in a part, told head by head."""
    head = part[0]
    if head in ("number", "name"):
        return []
    if head == "two":
        return [part[2], part[3]]
    if head in ("main", "fun", "loop"):
        return list(part[2])
    if head == "call":
        return [part[1]] + list(part[2])
    if head == "step":
        return [part[1], part[2]]
    if head in ("let", "set", "fault"):
        return [part[2]]
    if head == "if":
        return [part[1]] + list(part[2]) + list(part[3])
    if head == "while":
        return [part[1]] + list(part[2])
    if head == "try":
        return list(part[1]) + list(part[4]) + list(part[5])
    return [part[1]]


def count(part):
    return 1 + sum([count(one) for one in inner(part)])


def height(part):
    return 1 + max([height(one) for one in inner(part)], default=0)


def all_parts(part):
    found = [part]
    for one in inner(part):
        found.extend(all_parts(one))
    return found


class RefFault(Exception):
    """A fault in a reference run."""

    def __init__(self, word, number=0):
        super().__init__(word)
        self.word = word
        self.number = number


class RefDry(Exception):
    """The end of a reference run that has no tick left."""


class RefBack(Exception):
    """A back in a reference run."""


class RefFunction:
    def __init__(self, tree, env):
        self.tree = tree
        self.env = env


class RefWaiting:
    def __init__(self, course):
        self.course = course
        self.state = "waiting"


class RefEnv:
    """The names of one call, and those round it."""

    def __init__(self, tree, outer):
        self.found = {name: None for name in list(tree[1]) + brought(tree[2])}
        self.outer = outer

    def owner(self, name):
        return self if name in self.found else self.outer.owner(name)


def brought(body):
    """The names that the lets and tries of a body bring."""
    found = []
    for statement in body:
        if statement[0] == "let":
            found.append(statement[1])
        for place, thing in enumerate(statement):
            if statement[0] == "try" and place == 3:
                found.append(thing)
            elif isinstance(thing, tuple) and (thing == () or isinstance(thing[0], tuple)):
                found.extend(brought(thing))
    return found


class Reference:
    """Runs programs by Python's own calls and generators, in another way than the program does."""

    def __init__(self, limit):
        self.left = limit
        self.opened = 0
        self.row = []

    def run(self, tree, inputs):
        """The row and the ending."""
        env = RefEnv(tree, None)
        env.found.update(zip(tree[1], inputs))
        try:
            for value in self.body(tree[2], env):
                self.row.append(value if isinstance(value, int) else
                                "waiting" if isinstance(value, RefWaiting) else value.tree[0])
        except RefFault as fault:
            return self.row, ("fault", fault.word, fault.number)
        except RefDry:
            return self.row, ("dry",)
        except RefBack:
            pass
        return self.row, ("end",)

    def tick(self):
        if self.left == 0:
            raise RefDry()
        self.left -= 1

    def enter(self):
        if self.opened == 30:
            raise RefFault("deep")
        self.tick()
        self.opened += 1

    def number(self, term, env):
        value = self.term(term, env)
        if not isinstance(value, int):
            raise RefFault("kind")
        return value

    def term(self, term, env):
        head = term[0]
        if head == "number":
            return term[1]
        if head == "name":
            value = env.owner(term[1]).found[term[1]]
            if value is None:
                raise RefFault("unset")
            return value
        if head in ("fun", "loop"):
            return RefFunction(term, env)
        return {"two": self.two, "call": self.call, "step": self.step}[head](term, env)

    def two(self, term, env):
        a = self.term(term[2], env)
        b = self.term(term[3], env)
        if not (isinstance(a, int) and isinstance(b, int)):
            raise RefFault("kind")
        told = {"+": a + b, "-": a - b, "*": a * b, "<": int(a < b), "=": int(a == b)}[term[1]]
        if abs(told) > 10 ** 12:
            raise RefFault("great")
        return told

    def call(self, term, env):
        function = self.term(term[1], env)
        values = [self.term(one, env) for one in term[2]]
        if not isinstance(function, RefFunction):
            raise RefFault("kind")
        if len(values) != len(function.tree[1]):
            raise RefFault("count")
        inner_env = RefEnv(function.tree, function.env)
        inner_env.found.update(zip(function.tree[1], values))
        course = self.body(function.tree[2], inner_env)
        if function.tree[0] == "loop":
            return RefWaiting(course)
        self.enter()
        try:
            for value in course:
                raise AssertionError("a fun hands out nothing")
            return 0
        except RefBack as back:
            return back.args[0]
        finally:
            self.opened -= 1

    def step(self, term, env):
        waiting = self.term(term[1], env)
        if not isinstance(waiting, RefWaiting):
            raise RefFault("kind")
        if waiting.state == "open":
            raise RefFault("busy")
        if waiting.state == "waiting":
            self.enter()
            waiting.state = "open"
            try:
                value = next(waiting.course)
                waiting.state = "waiting"
                return value
            except (StopIteration, RefBack):
                waiting.state = "ended"
            except RefFault:
                waiting.state = "ended"
                raise
            finally:
                self.opened -= 1
        return self.term(term[2], env)

    def body(self, body, env):
        """A generator of what a body hands out."""
        for statement in body:
            yield from self.statement(statement, env)

    def statement(self, statement, env):
        head = statement[0]
        if head in ("let", "set"):
            value = self.term(statement[2], env)
            env.owner(statement[1]).found[statement[1]] = value
        elif head == "do":
            self.term(statement[1], env)
        elif head == "if":
            yield from self.body(statement[2 if self.number(statement[1], env) else 3], env)
        elif head == "while":
            self.tick()
            while self.number(statement[1], env):
                yield from self.body(statement[2], env)
                self.tick()
        elif head == "hand":
            yield self.term(statement[1], env)
        elif head == "back":
            raise RefBack(self.term(statement[1], env))
        elif head == "fault":
            raise RefFault(statement[1], self.number(statement[2], env))
        else:
            yield from self.attempt(statement, env)

    def attempt(self, statement, env):
        caught = False
        try:
            yield from self.body(statement[1], env)
        except RefFault as fault:
            if statement[2] not in ("any", fault.word):
                raise
            caught = True
            env.found[statement[3]] = fault.number
        yield from self.body(statement[4 if caught else 5], env)


def reference(tree, inputs, limit):
    """The row and the ending of a program, by the reference."""
    return Reference(limit).run(tree, inputs)


class Weaver:
    """Chance programs whose names are all there, and whose terms mostly fit.

    A name tells what it mostly is: n.. a number, w.. a waiting loop, f.. a fun and l.. a loop, with a letter behind
    for the parameters: a for none, b for one, c for two.
    """

    def __init__(self, seed):
        self.dice = random.Random(seed)
        self.scopes = []
        self.parts = 0

    def program(self):
        """A program of at most 300 parts, at most 20 deep."""
        while True:
            self.scopes = []
            self.parts = 0
            found = self.function("main", self.dice.randrange(3), 8)
            if count(found) <= 300 and height(found) <= 20:
                return found

    def likely(self, percent):
        return self.dice.randrange(100) < percent

    def fresh(self, kind):
        """A new name of a kind for the innermost function."""
        own = self.scopes[-1]
        name = kind + self.dice.choice("xyzuv")
        while name in own:
            name = kind + "".join([self.dice.choice("xyzuv") for k in range(4)])
        own.append(name)
        return name

    def seen(self, kind):
        """A name of a kind that is seen here, None without one."""
        names = [name for own in self.scopes for name in own if name.startswith(kind)]
        return self.dice.choice(names) if names else None

    def function(self, head, params, depth):
        self.scopes.append([])
        names = tuple([self.fresh("n" if self.likely(75) else self.dice.choice(("w", "fa", "fb", "la"))) for k in range(params)])
        # Some names are brought at the end only, and so are mostly unset when they are read.
        late = [self.fresh(self.dice.choice("nw"))] if self.likely(8) else []
        body = list(self.body(depth, head != "fun", self.dice.randrange(2, 7) if head == "main" else self.dice.randrange(0, 5)))
        if head == "loop" and self.likely(80):
            place = self.dice.randrange(len(body) + 1)
            body.insert(place, ("hand", self.number(2)))
        if head == "fun" and self.likely(70):
            body.append(("back", self.any_term(depth - 1)))
        body = body[:11] + [("let", name, ("number", 7)) for name in late]
        self.scopes.pop()
        return (head, names, tuple(body))

    def body(self, depth, hands, length):
        if depth < 2:
            return ()
        return tuple([self.shielded(depth - 1, hands) for k in range(length)])

    def shielded(self, depth, hands):
        """A statement, perhaps within a try, so that not every fault ends the run."""
        if len(self.scopes) > 1 or self.likely(40):
            return self.statement(depth, hands)
        first = self.statement(depth - 1, hands)
        name = self.fresh("n")
        second = (("hand", ("name", name)),) if hands and self.likely(30) else ()
        return ("try", (first,), "any", name, second, ())

    def short_body(self, depth, hands):
        return self.body(depth, hands, self.dice.choice((0, 1, 1, 2, 3)))

    def statement(self, depth, hands):
        heads = ["let"] * 8 + ["set"] * 4 + ["do"] * 3 + ["if"] * 2 + ["while"] * 2 + ["try"] * 4 + ["fault"]
        heads += ["hand"] * 12 if hands else []
        heads += ["back"] if self.likely(30) else []
        head = self.dice.choice(heads)
        if head == "let":
            kind = self.dice.choice(("n", "n", "w", "w", "fa", "fb", "fc", "la", "lb"))
            # A fun may speak of itself, so its name is there already while its term is told.
            if self.likely(40):
                name = self.fresh(kind)
                return ("let", name, self.term(kind, depth - 1))
            term = self.term(kind, depth - 1)
            return ("let", self.fresh(kind), term)
        if head == "set":
            name = self.seen(self.dice.choice("nnnwfl"))
            if name is not None:
                kind = name[:2] if name[0] in "fl" else name[0]
                return ("set", name, self.term(kind, depth - 1))
            head = "do"
        if head in ("do", "back"):
            return (head, self.any_term(depth - 1))
        if head == "hand":
            return (head, self.number(depth - 1) if self.likely(85) else self.any_term(depth - 1))
        if head == "fault":
            return (head, self.dice.choice(("oh", "ah", "kind", "deep")), self.number(depth - 1))
        if head == "if":
            return (head, self.number(depth - 1), self.short_body(depth - 1, hands), self.short_body(depth - 1, hands))
        if head == "while":
            return self.loop_statement(depth, hands)
        word = self.dice.choice(("any", "any", "oh", "ah", "kind", "unset", "busy", "deep", "count", "great"))
        first = self.short_body(depth, hands)
        name = self.fresh("n")
        return (head, first, word, name, self.short_body(depth - 1, hands), self.short_body(depth - 1, hands))

    def loop_statement(self, depth, hands):
        name = self.seen("n")
        if name is None or self.likely(15):
            return ("while", self.number(depth - 1), self.short_body(depth - 1, hands))
        more = ("set", name, ("two", "+", ("name", name), ("number", self.dice.choice((1, 1, 2)))))
        body = list(self.short_body(depth, hands))
        body.insert(self.dice.randrange(len(body) + 1), more)
        test = ("two", "<", ("name", name), ("number", self.dice.choice((2, 3, 5, 9))))
        return ("while", test, tuple(body))

    def any_term(self, depth):
        return self.term(self.dice.choice(("n", "n", "n", "w", "w", "fa", "fb", "la", "lb")), depth)

    def term(self, kind, depth):
        if self.likely(3):
            kind = self.dice.choice(("n", "w", "fa", "la"))
        if kind[0] == "n":
            return self.number(depth)
        if kind[0] == "w":
            return self.waiting(depth)
        return self.function_term(kind, depth)

    def function_term(self, kind, depth):
        name = self.seen(kind)
        if name is not None and (depth < 3 or self.likely(60)):
            return ("name", name)
        if depth < 3:
            body = (("back", ONE),) if kind[0] == "f" else (("hand", ONE), ("hand", ("number", 2)))
            return ("fun" if kind[0] == "f" else "loop", ("nx", "ny")[:"abc".index(kind[1])], body)
        return self.function("fun" if kind[0] == "f" else "loop", "abc".index(kind[1]), depth)

    def waiting(self, depth):
        name = self.seen("w")
        if name is not None and self.likely(50):
            return ("name", name)
        return self.calling("l", depth)

    def calling(self, head, depth):
        letter = self.dice.choice("aabb" if head == "l" else "aabbc")
        length = "abc".index(letter) if self.likely(96) else self.dice.randrange(3)
        function = self.function_term(head + letter, depth - 1)
        return ("call", function, tuple([self.number(depth - 1) if self.likely(80) else self.any_term(depth - 1)
                                         for k in range(length)]))

    def number(self, depth):
        name = self.seen("n")
        if depth < 2 or self.likely(30):
            if name is None or self.likely(30):
                return ("number", self.dice.choice((0, 1, 2, 3, -1, 5, 10 ** 12, 10 ** 6)))
            return ("name", name)
        choice = self.dice.randrange(100)
        if choice < 35:
            return ("two", self.dice.choice("++--*<="), self.number(depth - 1), self.number(depth - 1))
        if choice < 70:
            return ("step", self.waiting(depth - 1), self.number(depth - 1))
        return self.calling("f", depth)

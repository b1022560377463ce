"""What several tests need: small parts, wrong things of every kind, chance programs, and a writer of texts."""

import random
import re

ONE = ("number", 1)
X = ("name", "x")
DO = ("do", ONE)
EMPTY = ("try", (), "any", "e", (), ())

# A good part for each head; those with a head of statements stand in the body of a program.
TERMS = {
    "number": ("number", 12),
    "name": ("name", "x"),
    "two": ("two", "+", ONE, X),
    "fun": ("fun", ("x", "y"), (("let", "z", ONE), ("back", X))),
    "loop": ("loop", ("x", "y"), (("hand", X), DO)),
    "call": ("call", X, (ONE, ("number", 2), X)),
    "step": ("step", X, ONE),
}
STATEMENTS = {
    "let": ("let", "x", ONE),
    "set": ("set", "x", ONE),
    "do": ("do", X),
    "if": ("if", X, (DO, ("back", ONE)), (("hand", X),)),
    "while": ("while", X, (DO, ("hand", X))),
    "hand": ("hand", X),
    "back": ("back", X),
    "fault": ("fault", "oh", X),
    "try": ("try", (DO, DO), "any", "x", (("hand", X),), (("back", X), DO, DO)),
}


class Other:
    """A thing of a kind that nothing here wants."""


class Alike:
    """A thing that claims to be like any other."""

    def __eq__(self, other):
        return True

    __hash__ = None


class Sulky:
    """A thing that can't be compared."""

    def __eq__(self, other):
        raise RuntimeError("not to be compared")

    __hash__ = None


def nested(depth, kind):
    """A list or tuple that stands that deep in others."""
    inner = kind()
    for k in range(depth):
        inner = kind([inner])
    return inner


def odd_things():
    """Things of many kinds that are no name, number, sign, term, statement, body or program."""
    endless = []
    endless.append(endless)
    return [
        None, True, False, 1.0, 0.0, float("nan"), float("inf"), 1j, b"x", b"", bytearray(b"main"), "", " ", "X", "x ",
        10 ** 12 + 1, -(10 ** 12) - 1, 10 ** 5000, [], {}, set(), {"x"}, frozenset(), range(3), Other(), Other, len,
        ["x"], ["main", [], []], ["main", (), ()], {"main": 1}, (None,), ((),), ([],), ({},), ((), ()), (1,), (True,),
        ("",), ("main", 1), ("Main", (), ()), nested(5000, tuple), nested(5000, list), (nested(5000, tuple),),
        Alike(), (Alike(), (), ()), Sulky(), (Sulky(), (), ()), endless, (endless,), iter(()), slice(1),
        NotImplemented, ..., Exception("main"), "x" * 100000, ("x",) * 100000,
    ]


def program(*statements):
    return ("main", (), statements)


def deep_term(depth):
    """A term of this depth."""
    term = ONE
    for k in range(depth - 1):
        term = ("step", term, ONE) if k % 2 else ("two", "-", ONE, term)
    return term


def wide_program(size):
    """A program with that many parts, from 1 on, that isn't deep."""
    rows = []
    left = size - 1
    while left > 0:
        rows.append(wide_statement(min(left, 50)))
        left -= count(rows[-1])
    return program(*rows)


def wide_statement(size):
    """A statement with that many parts, from 1 to 50."""
    if size == 1:
        return EMPTY
    inner_ones = [DO] * ((size - 2) // 2) + [EMPTY] * (size % 2)
    return ("if", ONE, tuple(inner_ones[:12]), tuple(inner_ones[12:]))


def written(part):
    """The text of a part, by a plain walk that owes nothing to the program."""
    head = part[0]
    if head == "number":
        return str(part[1])
    if head == "name":
        return part[1]
    if head == "two":
        return "(" + " ".join([part[1], written(part[2]), written(part[3])]) + ")"
    if head in ("main", "fun", "loop"):
        return "(" + " ".join([head, "(" + " ".join(part[1]) + ")"] + [written(one) for one in part[2]]) + ")"
    if head == "call":
        return "(" + " ".join([head, written(part[1])] + [written(one) for one in part[2]]) + ")"
    words = [head]
    for thing in part[1:]:
        if isinstance(thing, str):
            words.append(thing)
        elif thing and isinstance(thing[0], str):
            words.append(written(thing))
        else:
            words.append("(" + " ".join([written(one) for one in thing]) + ")")
    return "(" + " ".join(words) + ")"


NAMES = ("x", "y", "main", "let", "call", "any", "fun", "if", "try", "number", "abcdefgh", "zzzzzzzz", "two", "hand")


class Chance:
    """Chance programs, the same ones for the same seed."""

    def __init__(self, seed):
        self.dice = random.Random(seed)

    def names(self):
        return tuple(self.dice.sample(NAMES, self.dice.randrange(5)))

    def name(self):
        return self.dice.choice(NAMES)

    def body(self, depth, hands):
        if depth < 1:
            return ()
        return tuple([self.statement(depth, hands) for k in range(self.dice.choice((0, 1, 1, 2, 3)))])

    def statement(self, depth, hands):
        heads = [head for head in STATEMENTS if head != "hand" or hands]
        head = self.dice.choice(heads)
        if depth < 2:
            return ("try", (), self.name(), self.name(), (), ())
        if head in ("let", "set"):
            return (head, self.name(), self.term(depth - 1))
        if head == "fault":
            return (head, "any" + self.dice.choice("abc"), self.term(depth - 1))
        if head == "if":
            return (head, self.term(depth - 1), self.body(depth - 1, hands), self.body(depth - 1, hands))
        if head == "while":
            return (head, self.term(depth - 1), self.body(depth - 1, hands))
        if head == "try":
            bodies = [self.body(depth - 1, hands) for k in range(3)]
            return (head, bodies[0], self.name(), self.name(), bodies[1], bodies[2])
        return (head, self.term(depth - 1))

    def term(self, depth):
        head = self.dice.choice(list(TERMS))
        if depth < 2 or head in ("number", "name"):
            if head == "name":
                return ("name", self.name())
            return ("number", self.dice.choice((0, 1, -1, 12, -120, 10 ** 12, -(10 ** 12))))
        if head == "two":
            return (head, self.dice.choice("+-*<="), self.term(depth - 1), self.term(depth - 1))
        if head == "step":
            return (head, self.term(depth - 1), self.term(depth - 1))
        if head == "call":
            terms = [self.term(depth - 1) for k in range(self.dice.randrange(5))]
            return (head, self.term(depth - 1), tuple(terms))
        return (head, self.names(), self.body(depth - 1, head == "loop"))

    def program(self):
        """A program of at most 300 parts, and of a text that can be read."""
        while True:
            found = ("main", self.names(), self.body(self.dice.randrange(1, 8), True))
            if count(found) <= 300 and len(written(found)) <= 6000:
                return found


def inner(part):
    """The parts right in a part, told head by head."""
    head = part[0]
    if head in ("number", "name"):
        return []
    if head == "two":
        return [part[2], part[3]]
    if head in ("main", "fun", "loop"):
        return list(part[2])
    if head == "call":
        return [part[1]] + list(part[2])
    if head == "step":
        return [part[1], part[2]]
    if head in ("let", "set", "fault"):
        return [part[2]]
    if head == "if":
        return [part[1]] + list(part[2]) + list(part[3])
    if head == "while":
        return [part[1]] + list(part[2])
    if head == "try":
        return list(part[1]) + list(part[4]) + list(part[5])
    return [part[1]]


def count(part):
    return 1 + sum([count(one) for one in inner(part)])


def height(part):
    return 1 + max([height(one) for one in inner(part)], default=0)


def all_parts(part):
    found = [part]
    for one in inner(part):
        found.extend(all_parts(one))
    return found


class RefFault(Exception):
    """A fault in a reference run."""

    def __init__(self, word, number=0):
        super().__init__(word)
        self.word = word
        self.number = number


class RefDry(Exception):
    """The end of a reference run that has no tick left."""


class RefBack(Exception):
    """A back in a reference run."""


class RefFunction:
    def __init__(self, tree, env):
        self.tree = tree
        self.env = env


class RefWaiting:
    def __init__(self, course):
        self.course = course
        self.state = "waiting"


class RefEnv:
    """The names of one call, and those round it."""

    def __init__(self, tree, outer):
        self.found = {name: None for name in list(tree[1]) + brought(tree[2])}
        self.outer = outer

    def owner(self, name):
        return self if name in self.found else self.outer.owner(name)


def brought(body):
    """The names that the lets and tries of a body bring."""
    found = []
    for statement in body:
        if statement[0] == "let":
            found.append(statement[1])
        for place, thing in enumerate(statement):
            if statement[0] == "try" and place == 3:
                found.append(thing)
            elif isinstance(thing, tuple) and (thing == () or isinstance(thing[0], tuple)):
                found.extend(brought(thing))
    return found


class Reference:
    """Runs programs by Python's own calls and generators, in another way than the program does."""

    def __init__(self, limit):
        self.left = limit
        self.opened = 0
        self.row = []

    def run(self, tree, inputs):
        """The row and the ending."""
        env = RefEnv(tree, None)
        env.found.update(zip(tree[1], inputs))
        try:
            for value in self.body(tree[2], env):
                self.row.append(value if isinstance(value, int) else
                                "waiting" if isinstance(value, RefWaiting) else value.tree[0])
        except RefFault as fault:
            return self.row, ("fault", fault.word, fault.number)
        except RefDry:
            return self.row, ("dry",)
        except RefBack:
            pass
        return self.row, ("end",)

    def tick(self):
        if self.left == 0:
            raise RefDry()
        self.left -= 1

    def enter(self):
        if self.opened == 30:
            raise RefFault("deep")
        self.tick()
        self.opened += 1

    def number(self, term, env):
        value = self.term(term, env)
        if not isinstance(value, int):
            raise RefFault("kind")
        return value

    def term(self, term, env):
        head = term[0]
        if head == "number":
            return term[1]
        if head == "name":
            value = env.owner(term[1]).found[term[1]]
            if value is None:
                raise RefFault("unset")
            return value
        if head in ("fun", "loop"):
            return RefFunction(term, env)
        return {"two": self.two, "call": self.call, "step": self.step}[head](term, env)

    def two(self, term, env):
        a = self.term(term[2], env)
        b = self.term(term[3], env)
        if not (isinstance(a, int) and isinstance(b, int)):
            raise RefFault("kind")
        told = {"+": a + b, "-": a - b, "*": a * b, "<": int(a < b), "=": int(a == b)}[term[1]]
        if abs(told) > 10 ** 12:
            raise RefFault("great")
        return told

    def call(self, term, env):
        function = self.term(term[1], env)
        values = [self.term(one, env) for one in term[2]]
        if not isinstance(function, RefFunction):
            raise RefFault("kind")
        if len(values) != len(function.tree[1]):
            raise RefFault("count")
        inner_env = RefEnv(function.tree, function.env)
        inner_env.found.update(zip(function.tree[1], values))
        course = self.body(function.tree[2], inner_env)
        if function.tree[0] == "loop":
            return RefWaiting(course)
        self.enter()
        try:
            for value in course:
                raise AssertionError("a fun hands out nothing")
            return 0
        except RefBack as back:
            return back.args[0]
        finally:
            self.opened -= 1

    def step(self, term, env):
        waiting = self.term(term[1], env)
        if not isinstance(waiting, RefWaiting):
            raise RefFault("kind")
        if waiting.state == "open":
            raise RefFault("busy")
        if waiting.state == "waiting":
            self.enter()
            waiting.state = "open"
            try:
                value = next(waiting.course)
                waiting.state = "waiting"
                return value
            except (StopIteration, RefBack):
                waiting.state = "ended"
            except RefFault:
                waiting.state = "ended"
                raise
            finally:
                self.opened -= 1
        return self.term(term[2], env)

    def body(self, body, env):
        """A generator of what a body hands out."""
        for statement in body:
            yield from self.statement(statement, env)

    def statement(self, statement, env):
        head = statement[0]
        if head in ("let", "set"):
            value = self.term(statement[2], env)
            env.owner(statement[1]).found[statement[1]] = value
        elif head == "do":
            self.term(statement[1], env)
        elif head == "if":
            yield from self.body(statement[2 if self.number(statement[1], env) else 3], env)
        elif head == "while":
            self.tick()
            while self.number(statement[1], env):
                yield from self.body(statement[2], env)
                self.tick()
        elif head == "hand":
            yield self.term(statement[1], env)
        elif head == "back":
            raise RefBack(self.term(statement[1], env))
        elif head == "fault":
            raise RefFault(statement[1], self.number(statement[2], env))
        else:
            yield from self.attempt(statement, env)

    def attempt(self, statement, env):
        caught = False
        try:
            yield from self.body(statement[1], env)
        except RefFault as fault:
            if statement[2] not in ("any", fault.word):
                raise
            caught = True
            env.found[statement[3]] = fault.number
        yield from self.body(statement[4 if caught else 5], env)


def reference(tree, inputs, limit):
    """The row and the ending of a program, by the reference."""
    return Reference(limit).run(tree, inputs)


class Weaver:
    """Chance programs whose names are all there, and whose terms mostly fit.

    A name tells what it mostly is: n.. a number, w.. a waiting loop, f.. a fun and l.. a loop, with a letter behind
    for the parameters: a for none, b for one, c for two.
    """

    def __init__(self, seed):
        self.dice = random.Random(seed)
        self.scopes = []
        self.parts = 0

    def program(self):
        """A program of at most 300 parts, at most 20 deep."""
        while True:
            self.scopes = []
            self.parts = 0
            found = self.function("main", self.dice.randrange(3), 8)
            if count(found) <= 300 and height(found) <= 20:
                return found

    def likely(self, percent):
        return self.dice.randrange(100) < percent

    def fresh(self, kind):
        """A new name of a kind for the innermost function."""
        own = self.scopes[-1]
        name = kind + self.dice.choice("xyzuv")
        while name in own:
            name = kind + "".join([self.dice.choice("xyzuv") for k in range(4)])
        own.append(name)
        return name

    def seen(self, kind):
        """A name of a kind that is seen here, None without one."""
        names = [name for own in self.scopes for name in own if name.startswith(kind)]
        return self.dice.choice(names) if names else None

    def function(self, head, params, depth):
        self.scopes.append([])
        names = tuple([self.fresh("n" if self.likely(75) else self.dice.choice(("w", "fa", "fb", "la"))) for k in range(params)])
        # Some names are brought at the end only, and so are mostly unset when they are read.
        late = [self.fresh(self.dice.choice("nw"))] if self.likely(8) else []
        body = list(self.body(depth, head != "fun", self.dice.randrange(2, 7) if head == "main" else self.dice.randrange(0, 5)))
        if head == "loop" and self.likely(80):
            place = self.dice.randrange(len(body) + 1)
            body.insert(place, ("hand", self.number(2)))
        if head == "fun" and self.likely(70):
            body.append(("back", self.any_term(depth - 1)))
        body = body[:11] + [("let", name, ("number", 7)) for name in late]
        self.scopes.pop()
        return (head, names, tuple(body))

    def body(self, depth, hands, length):
        if depth < 2:
            return ()
        return tuple([self.shielded(depth - 1, hands) for k in range(length)])

    def shielded(self, depth, hands):
        """A statement, perhaps within a try, so that not every fault ends the run."""
        if len(self.scopes) > 1 or self.likely(40):
            return self.statement(depth, hands)
        first = self.statement(depth - 1, hands)
        name = self.fresh("n")
        second = (("hand", ("name", name)),) if hands and self.likely(30) else ()
        return ("try", (first,), "any", name, second, ())

    def short_body(self, depth, hands):
        return self.body(depth, hands, self.dice.choice((0, 1, 1, 2, 3)))

    def statement(self, depth, hands):
        heads = ["let"] * 8 + ["set"] * 4 + ["do"] * 3 + ["if"] * 2 + ["while"] * 2 + ["try"] * 4 + ["fault"]
        heads += ["hand"] * 12 if hands else []
        heads += ["back"] if self.likely(30) else []
        head = self.dice.choice(heads)
        if head == "let":
            kind = self.dice.choice(("n", "n", "w", "w", "fa", "fb", "fc", "la", "lb"))
            # A fun may speak of itself, so its name is there already while its term is told.
            if self.likely(40):
                name = self.fresh(kind)
                return ("let", name, self.term(kind, depth - 1))
            term = self.term(kind, depth - 1)
            return ("let", self.fresh(kind), term)
        if head == "set":
            name = self.seen(self.dice.choice("nnnwfl"))
            if name is not None:
                kind = name[:2] if name[0] in "fl" else name[0]
                return ("set", name, self.term(kind, depth - 1))
            head = "do"
        if head in ("do", "back"):
            return (head, self.any_term(depth - 1))
        if head == "hand":
            return (head, self.number(depth - 1) if self.likely(85) else self.any_term(depth - 1))
        if head == "fault":
            return (head, self.dice.choice(("oh", "ah", "kind", "deep")), self.number(depth - 1))
        if head == "if":
            return (head, self.number(depth - 1), self.short_body(depth - 1, hands), self.short_body(depth - 1, hands))
        if head == "while":
            return self.loop_statement(depth, hands)
        word = self.dice.choice(("any", "any", "oh", "ah", "kind", "unset", "busy", "deep", "count", "great"))
        first = self.short_body(depth, hands)
        name = self.fresh("n")
        return (head, first, word, name, self.short_body(depth - 1, hands), self.short_body(depth - 1, hands))

    def loop_statement(self, depth, hands):
        name = self.seen("n")
        if name is None or self.likely(15):
            return ("while", self.number(depth - 1), self.short_body(depth - 1, hands))
        more = ("set", name, ("two", "+", ("name", name), ("number", self.dice.choice((1, 1, 2)))))
        body = list(self.short_body(depth, hands))
        body.insert(self.dice.randrange(len(body) + 1), more)
        test = ("two", "<", ("name", name), ("number", self.dice.choice((2, 3, 5, 9))))
        return ("while", test, tuple(body))

    def any_term(self, depth):
        return self.term(self.dice.choice(("n", "n", "n", "w", "w", "fa", "fb", "la", "lb")), depth)

    def term(self, kind, depth):
        if self.likely(3):
            kind = self.dice.choice(("n", "w", "fa", "la"))
        if kind[0] == "n":
            return self.number(depth)
        if kind[0] == "w":
            return self.waiting(depth)
        return self.function_term(kind, depth)

    def function_term(self, kind, depth):
        name = self.seen(kind)
        if name is not None and (depth < 3 or self.likely(60)):
            return ("name", name)
        if depth < 3:
            body = (("back", ONE),) if kind[0] == "f" else (("hand", ONE), ("hand", ("number", 2)))
            return ("fun" if kind[0] == "f" else "loop", ("nx", "ny")[:"abc".index(kind[1])], body)
        return self.function("fun" if kind[0] == "f" else "loop", "abc".index(kind[1]), depth)

    def waiting(self, depth):
        name = self.seen("w")
        if name is not None and self.likely(50):
            return ("name", name)
        return self.calling("l", depth)

    def calling(self, head, depth):
        letter = self.dice.choice("aabb" if head == "l" else "aabbc")
        length = "abc".index(letter) if self.likely(96) else self.dice.randrange(3)
        function = self.function_term(head + letter, depth - 1)
        return ("call", function, tuple([self.number(depth - 1) if self.likely(80) else self.any_term(depth - 1)
                                         for k in range(length)]))

    def number(self, depth):
        name = self.seen("n")
        if depth < 2 or self.likely(30):
            if name is None or self.likely(30):
                return ("number", self.dice.choice((0, 1, 2, 3, -1, 5, 10 ** 12, 10 ** 6)))
            return ("name", name)
        choice = self.dice.randrange(100)
        if choice < 35:
            return ("two", self.dice.choice("++--*<="), self.number(depth - 1), self.number(depth - 1))
        if choice < 70:
            return ("step", self.waiting(depth - 1), self.number(depth - 1))
        return self.calling("f", depth)


END = ("end",)
DRY = ("dry",)


def fault(word, number=0):
    return ("fault", word, number)


# A fun that notes its figure in log and tells it, to see in which order things are evaluated.
LOG = "(let log 0) (let t (fun (d) (set log (+ (* log 10) d)) (back d))) "
# A fun that is there to be open n times, and then does something.
DOWN = "(let down (fun (n f) (if (< 1 n) ((back (call down (- n 1) f))) ((back (call f)))))) "

# By point: the body of a program without parameters, the limit, the row and the ending.
RUNS = {
    "9": [
        ("", 0, [], END),
        ("(hand 1) (hand -5) (hand 1000000000000)", 0, [1, -5, 10 ** 12], END),
        ("(let x 1) (hand x) (set x 2) (hand x) (do 3) (hand x)", 0, [1, 2, 2], END),
        ("(hand 4) (hand x) (let x 1)", 0, [4], fault("unset")),
        ("(let x x)", 0, [], fault("unset")),
        ("(set x 3) (hand x) (let x 4) (hand x)", 0, [3, 4], END),
        ("(if 0 ((let x 1)) ()) (hand x)", 0, [], fault("unset")),
        ("(let k 0) (while (< k 3) ((try ((hand x)) unset e ((hand 99)) ()) (let x k) (set k (+ k 1))))", 4, [99, 0, 1], END),
        ("(let k 0) (while (< k 2) ((hand k) (hand x) (let x 5) (set k 9)))", 9, [0], fault("unset")),
        ("(try () any e () ()) (hand e)", 0, [], fault("unset")),
        (LOG + "(do (+ (call t 1) (call t 2))) (hand log)", 9, [12], END),
        (LOG + "(do (< (- (call t 1) (call t 2)) (* (call t 3) (call t 4)))) (hand log)", 9, [1234], END),
        (LOG + "(let p (fun (d) (do (call t d)) (back (fun (a b) (back (- a b)))))) "
         "(hand (call (call p 1) (call t 2) (call t 3))) (hand log)", 9, [-1, 123], END),
        ("(let x 1) (let f (fun () (back x))) (set x 2) (hand (call f))", 1, [2], END),
        ("(let x 1) (let f (fun (y) (set x y))) (hand (call f 7)) (hand x)", 1, [0, 7], END),
        ("(let f (fun () (back x))) (try ((hand (call f))) unset e ((hand e)) ()) (let x 3) (hand (call f))", 2, [0, 3], END),
        ("(let m (fun (n) (back (fun () (set n (+ n 1)) (back n))))) (let a (call m 0)) (let b (call m 10)) "
         "(hand (call a)) (hand (call a)) (hand (call b)) (hand (call a))", 6, [1, 2, 11, 3], END),
        ("(let f (fun (k) (if k ((let x 5)) ()) (back x))) (hand (call f 1)) (hand (call f 0))", 2, [5], fault("unset")),
        ("(let x 1) (let f (fun () (let x 7) (set x (+ x 1)) (back x))) (hand (call f)) (hand x)", 1, [8, 1], END),
        ("(let x 1) (let f (fun (x) (back (fun () (set x (+ x 1)) (back x))))) (hand (call (call f 5))) (hand x)", 2, [6, 1], END),
        ("(let l (loop (n) (while 1 ((hand (fun () (set n (+ n 1)) (back n))))))) (let w (call l 4)) "
         "(let f (step w 0)) (let g (step w 0)) (hand (call f)) (hand (call g)) (hand (call f))", 9, [5, 6, 7], END),
        ("(let k 0) (let a 0) (let b 0) (while (< k 2) ((let y k) (let f (fun () (back y))) "
         "(if k ((set b f)) ((set a f))) (set k (+ k 1)))) (hand (call a)) (hand (call b))", 9, [1, 1], END),
        ("(let f (fun (n) (if (< n 2) ((back 1)) ()) (back (* n (call f (- n 1)))))) (hand (call f 10))", 10, [3628800], END),
    ],
    "10": [
        ("(hand (+ 2 3)) (hand (- 2 3)) (hand (* -2 3)) (hand (< 2 3)) (hand (< 3 3)) (hand (= 3 3)) (hand (= 3 4))", 0,
         [5, -1, -6, 1, 0, 1, 0], END),
        ("(hand (+ 999999999999 1)) (hand (- -999999999999 1)) (hand (* 1000000 -1000000))", 0,
         [10 ** 12, -(10 ** 12), -(10 ** 12)], END),
        ("(hand (+ 1000000000000 1))", 0, [], fault("great")),
        ("(hand (+ -1000000000000 -1))", 0, [], fault("great")),
        ("(hand (- -1000000000000 1))", 0, [], fault("great")),
        ("(hand (- 1000000000000 -1))", 0, [], fault("great")),
        ("(hand (* 1000001 1000000))", 0, [], fault("great")),
        ("(hand (* -1000000000000 1000000000000))", 0, [], fault("great")),
        ("(hand (- (+ 1000000000000 1) 1))", 0, [], fault("great")),
        ("(hand (< -1000000000000 1000000000000)) (hand (= -1000000000000 1000000000000))", 0, [1, 0], END),
        ("(hand (+ 1 (fun ())))", 0, [], fault("kind")),
        ("(hand (* (loop ()) 1))", 0, [], fault("kind")),
        ("(hand (< (call (loop ())) 1))", 0, [], fault("kind")),
        ("(let f (fun ())) (hand (= f f))", 0, [], fault("kind")),
        ("(let f (fun ())) (hand (- f f))", 0, [], fault("kind")),
        ("(hand (+ (fun ()) x)) (let x 1)", 0, [], fault("unset")),
        (LOG + "(try ((do (+ (fun ()) (call t 1)))) kind e ((hand log)) ())", 1, [1], END),
        ("(hand (+ (fun ()) (+ 1000000000000 1)))", 0, [], fault("great")),
        ("(hand (+ (+ 1000000000000 1) (fun ())))", 0, [], fault("great")),
        ("(hand (+ 1000000000000 (fun ())))", 0, [], fault("kind")),
        ("(if (fun ()) ((hand 1)) ((hand 2)))", 0, [], fault("kind")),
        ("(if (call (loop ())) ((hand 1)) ((hand 2)))", 0, [], fault("kind")),
        ("(while (loop ()) ((hand 1)))", 1, [], fault("kind")),
        ("(while (loop ()) ((hand 1)))", 0, [], DRY),
        ("(let x 1) (while x ((hand 1) (set x (fun ()))))", 2, [1], fault("kind")),
        ("(fault oh (fun ()))", 0, [], fault("kind")),
        ("(try ((fault oh (loop ()))) oh e ((hand 1)) ((hand 2)))", 0, [], fault("kind")),
        ("(try ((fault oh (loop ()))) kind e ((hand e)) ((hand 2)))", 0, [0], END),
        ("(if -1 ((hand 1)) ((hand 2))) (if 0 ((hand 3)) ((hand 4))) (if 2 ((hand 5)) ())", 0, [1, 4, 5], END),
    ],
    "11": [
        ("(do (call 5 x)) (let x 1)", 0, [], fault("unset")),
        ("(do (call x 5)) (let x 1)", 0, [], fault("unset")),
        ("(do (call 5))", 0, [], fault("kind")),
        ("(do (call (call (loop ()))))", 0, [], fault("kind")),
        ("(do (call (fun (a))))", 0, [], fault("count")),
        ("(do (call (fun ()) 1))", 0, [], fault("count")),
        ("(do (call (fun (a b c d)) 1 2 3))", 0, [], fault("count")),
        ("(do (call (loop (a))))", 0, [], fault("count")),
        ("(do (call (loop ()) 1 2))", 0, [], fault("count")),
        (LOG + "(try ((do (call 5 (call t 1) (call t 2)))) kind e ((hand log)) ())", 9, [12], END),
        (LOG + "(try ((do (call t (call t 1) (call t 2)))) count e ((hand log)) ())", 9, [12], END),
        ("(hand (call (fun (a b c d) (back (- (+ a b) (* c d)))) 1 2 3 4))", 1, [-9], END),
        ("(hand (call (fun ())))", 1, [0], END),
        ("(hand (call (fun (x) (do x)) 7))", 1, [0], END),
        ("(hand (call (fun (x) (while 1 ((if x ((back 3)) ())))) 7))", 2, [3], END),
        ("(hand (call (fun () (back (fun ())))))", 1, ["fun"], END),
        ("(let n 0) (let f (fun () (set n (+ n 1)) (do (call f)))) (try ((do (call f))) deep e ((hand n) (hand e)) ()) "
         "(set n 0) (try ((do (call f))) any d ((hand n) (hand d)) ())", 60, [30, 0, 30, 0], END),
        ("(let n 0) (let f (fun () (set n (+ n 1)) (do (call f)))) (try ((do (call f))) deep e ((hand n)) ())", 30, [30], END),
        ("(let n 0) (let f (fun () (set n (+ n 1)) (do (call f)))) (try ((do (call f))) deep e ((hand n)) ())", 29, [], DRY),
        ("(let f (fun () (back (call f)))) (hand 1) (hand (call f))", 1000, [1], fault("deep")),
        ("(let n 0) (let f (fun () (set n (+ n 1)) (try ((do (call f))) deep e ((back n)) ()) (back (- n 100)))) "
         "(hand (call f)) (hand n)", 1000, [-70, 30], END),
        (DOWN + "(hand (call down 29 (fun () (back 5))))", 99, [5], END),
        (DOWN + "(hand (call down 30 (fun () (back 5))))", 99, [], fault("deep")),
        (DOWN + "(let f (fun () (back (call (loop (a)) 1)))) (hand (call down 29 f))", 99, ["waiting"], END),
        (DOWN + "(let f (fun () (back (call (fun (a)))))) (hand (call down 29 f))", 99, [], fault("count")),
        (DOWN + "(let f (fun () (back (call 7)))) (hand (call down 29 f))", 99, [], fault("kind")),
        (DOWN + "(let f (fun () (back (call (fun ()))))) (hand (call down 29 f))", 99, [], fault("deep")),
        ("(let l (loop () (hand 1))) (hand (call l)) (hand (call l))", 0, ["waiting", "waiting"], END),
        ("(hand (call (fun ())))", 0, [], DRY),
        ("(hand 3) (try ((hand (call (fun ())))) any e ((hand 4)) ((hand 5)))", 0, [3], DRY),
    ],
    "12": [
        ("(do (step x 1)) (let x 1)", 0, [], fault("unset")),
        ("(do (step 5 x)) (let x 1)", 0, [], fault("kind")),
        ("(do (step (fun ()) 1))", 0, [], fault("kind")),
        ("(do (step (loop ()) 1))", 0, [], fault("kind")),
        ("(let w (call (loop (n) (hand n) (hand (+ n 1))) 5)) (hand (step w 0)) (hand (step w 0)) (hand (step w 8)) "
         "(hand (step w 9)) (hand w)", 3, [5, 6, 8, 9, "waiting"], END),
        ("(let w (call (loop (n) (hand n) (hand (+ n 1))) 5)) (hand (step w 0)) (hand (step w 0)) (hand (step w 8))", 2,
         [5, 6], DRY),
        (LOG + "(let w (call (loop () (hand 1)))) (hand (step w (call t 4))) (hand log) (hand (step w (call t 5))) "
         "(hand log) (hand (step w (call t 6))) (hand log)", 9, [1, 0, 5, 5, 6, 56], END),
        ("(let w (call (loop ()))) (hand (step w x)) (let x 1)", 1, [], fault("unset")),
        ("(let w (call (loop ()))) (hand (step w 1)) (hand (step w 2))", 1, [1, 2], END),
        ("(let w (call (loop () (hand 1) (back 7) (hand 2)))) (hand (step w 0)) (hand (step w 5)) (hand (step w 6))", 9,
         [1, 5, 6], END),
        ("(let w 0) (let l (loop () (hand (step w 9)))) (set w (call l)) (hand (step w 8))", 9, [], fault("busy")),
        ("(let w 0) (let l (loop () (try ((do (step w x))) busy e ((hand e)) ()) (hand 6))) (set w (call l)) "
         "(hand (step w 1)) (hand (step w 2)) (hand (step w 3)) (let x 1)", 9, [0, 6, 3], END),
        ("(let w 0) (let f (fun () (back (step w 3)))) (let l (loop () (hand (call f)))) (set w (call l)) "
         "(try ((hand (step w 8))) busy e ((hand 4)) ()) (hand (step w 2))", 9, [4, 2], END),
        ("(let a 0) (let b 0) (set a (call (loop () (hand (step b 1))))) (set b (call (loop () (hand (step a 2))))) "
         "(try ((hand (step a 3))) busy e ((hand 4)) ()) (hand (step a 5)) (hand (step b 6))", 9, [4, 5, 6], END),
        ("(let w 0) (let l (loop () (try ((do (step w 1))) busy e () ()) (hand 5))) (set w (call l)) (hand (step w 0)) "
         "(hand (step w 0))", 2, [5, 0], END),
        ("(let w (call (loop () (hand 1) (fault oh 3) (hand 2)))) (hand (step w 0)) (try ((hand (step w 9))) oh e "
         "((hand e)) ((hand 8))) (hand (step w 7))", 9, [1, 3, 7], END),
        ("(let w (call (loop () (hand 1) (fault oh 3)))) (hand (step w 0)) (hand (step w 9))", 9, [1], fault("oh", 3)),
        ("(let w (call (loop (k) (while (< 0 k) ((hand k) (set k (- k 1)))) (hand 50)) 3)) (hand (step w 0)) "
         "(hand (step w 0)) (hand (step w 0)) (hand (step w 0)) (hand (step w 0))", 99, [3, 2, 1, 50, 0], END),
        ("(let w (call (loop () (try ((hand 1) (try ((hand 2) (fault oh 5)) ah d ((hand 90)) ((hand 91)))) oh e "
         "((hand e) (hand 6)) ((hand 92))) (hand 7)))) (let k 0) (while (< k 6) ((hand (step w 0)) (set k (+ k 1))))", 99,
         [1, 2, 5, 6, 7, 0], END),
        ("(let w (call (loop (l) (while 1 ((let v (call l)) (hand (step v 0))))) (loop () (hand 4)))) (hand (step w 0)) "
         "(hand (step w 0))", 99, [4, 4], END),
        ("(let w (call (loop (v) (while 1 ((hand (* 2 (step v -1)))))) (call (loop () (hand 1) (hand 2))))) "
         "(hand (step w 0)) (hand (step w 0)) (hand (step w 0)) (hand (step w 0))", 99, [2, 4, -2, -2], END),
        ("(hand (step (call (loop () (hand (fun (a) (back (* a a)))))) 0)) "
         "(hand (call (step (call (loop () (hand (fun (a) (back (* a a)))))) 0) 7))", 9, ["fun", 49], END),
        (DOWN + "(let w (call (loop () (hand 6) (hand 7)))) (let f (fun () (back (step w 1)))) (hand (call down 28 f)) "
         "(try ((hand (call down 29 f))) deep e ((hand e)) ()) (hand (step w 2)) (hand (step w 3))", 999, [6, 0, 7, 3], END),
        (DOWN + "(let w (call (loop ()))) (let g (fun () (back 8))) (let f (fun () (back (step w (call g))))) "
         "(hand (call down 28 f))", 999, [8], END),
        (DOWN + "(let w (call (loop ()))) (do (step w 0)) (let f (fun () (back (step w 4)))) (hand (call down 29 f))", 999,
         [4], END),
        (DOWN + "(let f (fun () (back (step 3 4)))) (hand (call down 29 f))", 999, [], fault("kind")),
        (DOWN + "(let w (call (loop (g) (hand (call g))) (fun () (back 3)))) (let f (fun () (back (step w 1)))) "
         "(try ((hand (call down 28 f))) deep e ((hand 5)) ()) (hand (step w 2))", 999, [5, 2], END),
        ("(let m (fun (n) (back (call (loop (n) (hand n) (if (< n 40) ((hand (step (call m (+ n 1)) 0))) ())) n)))) "
         "(let w (call m 1)) (hand (step w 0)) (hand (step w 0)) (hand (step w 0))", 99, [1, 2, 0], END),
        ("(let l 0) (let n 0) (set l (loop () (set n (+ n 1)) (hand (step (call l) 0)))) "
         "(try ((hand (step (call l) 0))) deep e ((hand n)) ())", 99, [30], END),
    ],
    "13": [
        ("(while 0 ((hand 1)))", 1, [], END),
        ("(while 0 ((hand 1)))", 0, [], DRY),
        ("(let k 0) (while (< k 3) ((hand k) (set k (+ k 1))))", 4, [0, 1, 2], END),
        ("(let k 0) (while (< k 3) ((hand k) (set k (+ k 1))))", 3, [0, 1, 2], DRY),
        ("(let k 0) (while (< k 3) ((hand k) (set k (+ k 1))))", 2, [0, 1], DRY),
        ("(while x ((hand 1))) (let x 1)", 0, [], DRY),
        ("(while x ((hand 1))) (let x 1)", 1, [], fault("unset")),
        ("(hand (fun ())) (hand (loop ())) (hand (call (loop ()))) (hand 0)", 0, ["fun", "loop", "waiting", 0], END),
        ("(let w (call (loop ()))) (do (step w 0)) (hand w)", 1, ["waiting"], END),
        ("(let w 0) (set w (call (loop () (hand w)))) (hand (step w 0))", 1, ["waiting"], END),
        ("(hand 1) (back 5) (hand 2)", 0, [1], END),
        ("(hand 1) (back (fun ())) (hand 2)", 0, [1], END),
        ("(hand 1) (back x) (hand 2) (let x 1)", 0, [1], fault("unset")),
        ("(while 1 ((hand 1) (back (call (fun ())))))", 2, [1], END),
        ("(while 1 ((hand 1) (back (call (fun ())))))", 1, [1], DRY),
        ("(fault oh 5)", 0, [], fault("oh", 5)),
        ("(hand 1) (fault kind -1000000000000) (hand 2)", 0, [1], fault("kind", -(10 ** 12))),
        ("(fault oh x) (let x 1)", 0, [], fault("unset")),
        ("(fault oh (+ 2 3))", 0, [], fault("oh", 5)),
        ("(if 1 ((if 0 ((hand 1)) ((hand 2)))) ((hand 3)))", 0, [2], END),
    ],
    "14": [
        ("(try ((hand 1)) oh e ((hand 2)) ((hand 3))) (hand 4)", 0, [1, 3, 4], END),
        ("(try ((hand 1) (fault oh 7) (hand 9)) oh e ((hand e)) ((hand 3))) (hand e)", 0, [1, 7, 7], END),
        ("(try ((fault ah 7)) oh e ((hand e)) ((hand 3)))", 0, [], fault("ah", 7)),
        ("(try ((fault ah 7)) any e ((hand e)) ((hand 3)))", 0, [7], END),
        ("(try ((hand x)) any e ((hand e)) ()) (let x 1)", 0, [0], END),
        ("(let e 5) (try () oh d () ()) (try ((fault oh 1)) oh f ((fault oh 2)) ()) (hand 1)", 0, [], fault("oh", 2)),
        ("(try () oh e () ((fault oh 2))) (hand 1)", 0, [], fault("oh", 2)),
        ("(try ((try ((fault oh 1)) oh e ((fault oh 2)) ((hand 8)))) oh d ((hand d)) ((hand 9)))", 0, [2], END),
        ("(try ((try () oh e ((hand 8)) ((fault oh 2)))) oh d ((hand d)) ((hand 9)))", 0, [2], END),
        ("(try ((try ((fault oh 1)) ah e ((hand 7)) ((hand 8)))) oh d ((hand d)) ((hand 9)))", 0, [1], END),
        ("(try ((try ((fault oh 1)) any e ((hand e)) ((hand 8)))) oh d ((hand d)) ((hand 9)))", 0, [1, 9], END),
        ("(let f (fun () (try ((back 1)) any e ((back 2)) ((back 3))) (back 4))) (hand (call f))", 1, [1], END),
        ("(let f (fun () (try ((fault oh 1)) any e ((back 2)) ((back 3))) (back 4))) (hand (call f))", 1, [2], END),
        ("(let f (fun () (try () any e ((back 2)) ((back 3))) (back 4))) (hand (call f))", 1, [3], END),
        ("(try ((hand 1) (back 0)) any e ((hand 2)) ((hand 3))) (hand 4)", 0, [1], END),
        ("(try ((do (call (fun () (fault oh 6))))) oh e ((hand e)) ())", 1, [6], END),
        ("(try ((do (call (fun () (try ((fault oh 6)) ah e () ()))))) oh e ((hand e)) ())", 1, [6], END),
        ("(let k 0) (while (< k 3) ((try ((if (= k 1) ((fault oh k)) ())) oh e ((hand 50)) ((hand k))) (set k (+ k 1))))", 9,
         [0, 50, 2], END),
        ("(try ((while 1 ((hand 1)))) any e ((hand 2)) ((hand 3)))", 3, [1, 1, 1], DRY),
        ("(let w (call (loop () (try ((hand 1) (hand 2)) any e ((hand 80)) ((hand 3))) (hand 4)))) (let k 0) "
         "(while (< k 5) ((try ((hand (step w 0))) any f ((hand 90)) ()) (set k (+ k 1))))", 99, [1, 2, 3, 4, 0], END),
        ("(let w (call (loop () (try ((hand 1) (fault oh 2)) oh e ((hand e) (fault oh 3)) ((hand 70)))))) "
         "(hand (step w 0)) (hand (step w 0)) (try ((hand (step w 0))) oh f ((hand f)) ()) (hand (step w 4))", 99,
         [1, 2, 3, 4], END),
        ("(let x 0) (try ((set x 1) (fault oh 0) (set x 2)) oh e () ()) (hand x)", 0, [1], END),
        ("(let x 5) (try ((set x (+ x (call (fun () (set x 9) (fault oh 1)))))) oh e () ()) (hand x)", 1, [9], END),
        ("(try ((fault oh 4)) oh e ((hand e) (set e 6) (hand e)) ()) (let f (fun () (back e))) (hand (call f))", 1,
         [4, 6, 6], END),
        ("(let f (fun () (back e))) (try ((fault oh 4)) oh e ((hand (call f))) ())", 1, [4], END),
        ("(let w (call (loop () (try ((hand 1)) any e () ()) (fault oh 2)))) (hand (step w 0)) "
         "(try ((hand (step w 0))) oh d ((hand d)) ())", 9, [1, 2], END),
        ("(try ((let w (call (loop () (hand 1) (fault oh 9))))) any e ((hand 60)) ((do (step w 0)))) "
         "(try ((do (step w 0))) oh f ((hand f)) ())", 9, [9], END),
    ],
}


def all_runs():
    """Tuples of a text, the limit, the row and the ending, of every point."""
    return [("(main () " + body + ")", limit, row, ending)
            for runs in RUNS.values() for body, limit, row, ending in runs]


class Unsound(Exception):
    """What is no sound code, for the slow check."""


def need(holds):
    if holds is not True:
        raise Unsound()


def need_tuple(thing, least, most):
    need(isinstance(thing, tuple))
    need(least <= len(thing) <= most)


def need_below(thing, bound, least=0):
    need(type(thing) is int)
    need(least <= thing < bound)


def need_name(thing):
    need(isinstance(thing, str) and re.fullmatch("[a-z]{1,8}", thing) is not None)


class SlowCheck:
    """Whether a code is sound, told row by row and end by end, with sets of slots along each way."""

    def __init__(self, code):
        self.code = code

    def check(self):
        need_tuple(self.code, 1, 300)
        for number, machine in enumerate(self.code):
            need_tuple(machine, 8, 8)
            kind, outer, params, names, slots, boxed, taken, states = machine
            need(isinstance(kind, str))
            need(kind == "main" if number == 0 else kind in ("fun", "loop"))
            if number == 0:
                need(outer is None)
            else:
                need_below(outer, number)
            need_below(slots, 1001)
            need_below(names, slots + 1)
            need_below(params, min(names, 4) + 1)
            need_tuple(boxed, 0, 1000)
            for place, one in enumerate(boxed):
                need_below(one, names, boxed[place - 1] + 1 if place else 0)
            need_tuple(taken, 0, 10 ** 9)
            need_tuple(states, 1, 2000)
        for number, machine in enumerate(self.code):
            for place in machine[6]:
                need(number > 0)
                self.far_place(place, self.code[machine[1]])
            ways = []
            for state in machine[7]:
                need_tuple(state, 3, 3)
                ways.append(self.state(state, number, machine))
            self.follow(ways)

    def far_place(self, place, machine):
        need_tuple(place, 2, 2)
        need(isinstance(place[0], str))
        if place[0] == "box":
            need_below(place[1], machine[3])
            need(place[1] in machine[5])
        else:
            need(place[0] == "taken")
            need_below(place[1], len(machine[6]))

    def place(self, place, machine):
        need_tuple(place, 2, 2)
        if isinstance(place[0], str) and place[0] == "slot":
            need_below(place[1], machine[3])
            need(place[1] not in machine[5])
        else:
            self.far_place(place, machine)

    def state(self, state, number, machine):
        """A list of the reads and writes in it, as they come, and of the ways out of it."""
        done = []

        def reads(slot):
            need_below(slot, machine[4], machine[3])
            done.append(("reads", slot))

        def writes(slot):
            need_below(slot, machine[4], machine[3])
            done.append(("writes", slot))

        def leads(target, slot=None):
            need_below(target, len(machine[7]))
            done.append(("leads", target, slot))

        rows, end, catches = state
        need_tuple(rows, 0, 1000)
        need_tuple(catches, 0, 20)
        for catch in catches:
            need_tuple(catch, 3, 3)
            need_name(catch[0])
            self.place(catch[1], machine)
            leads(catch[2])
        for row in rows:
            self.row(row, number, machine, reads, writes)
        self.end(end, machine, reads, leads, lambda slot: need_below(slot, machine[4], machine[3]))
        return done

    def row(self, row, number, machine, reads, writes):
        need_tuple(row, 3, 5)
        need(isinstance(row[0], str))
        need(row[0] in ("number", "read", "write", "two", "make"))
        need(len(row) == (5 if row[0] == "two" else 3))
        if row[0] == "number":
            need_below(row[2], 10 ** 12 + 1, -(10 ** 12))
        elif row[0] == "read":
            self.place(row[2], machine)
        elif row[0] == "write":
            self.place(row[1], machine)
            reads(row[2])
            return
        elif row[0] == "two":
            need(isinstance(row[2], str))
            need(row[2] in list("+-*<="))
            reads(row[3])
            reads(row[4])
        else:
            need_below(row[2], len(self.code))
            need(self.code[row[2]][1] == number)
        writes(row[1])

    def end(self, end, machine, reads, leads, is_slot):
        need_tuple(end, 2, 5)
        need(isinstance(end[0], str))
        lengths = {"go": 2, "if": 4, "while": 2, "call": 5, "step": 5, "hand": 3, "back": 2, "fault": 3}
        need(end[0] in lengths)
        need(len(end) == lengths[end[0]])
        if end[0] in ("go", "while"):
            leads(end[1])
        elif end[0] == "if":
            reads(end[1])
            leads(end[2])
            leads(end[3])
        elif end[0] == "call":
            is_slot(end[1])
            reads(end[2])
            need_tuple(end[3], 0, 4)
            for slot in end[3]:
                reads(slot)
            leads(end[4], end[1])
        elif end[0] == "step":
            is_slot(end[1])
            reads(end[2])
            leads(end[3], end[1])
            leads(end[4])
        elif end[0] == "hand":
            need(machine[0] != "fun")
            reads(end[1])
            leads(end[2])
        elif end[0] == "back":
            if end[1] is not None:
                reads(end[1])
        else:
            need_name(end[1])
            need(end[1] != "any")
            reads(end[2])

    def follow(self, ways):
        """Walk along all ways until nothing less is written anywhere."""
        ahead = {0: frozenset()}
        left = [0]
        while left:
            number = left.pop()
            written = set(ahead[number])
            for step in ways[number]:
                if step[0] == "reads":
                    need(step[1] in written)
                elif step[0] == "writes":
                    written.add(step[1])
                else:
                    there = frozenset(written if step[2] is None else written | {step[2]})
                    if step[1] in ahead:
                        there = there & ahead[step[1]]
                    if step[1] not in ahead or there != ahead[step[1]]:
                        ahead[step[1]] = there
                        left.append(step[1])


def sound_by_sets(code):
    """Whether a code is sound, by the slow check."""
    try:
        SlowCheck(code).check()
    except Unsound:
        return False
    return True

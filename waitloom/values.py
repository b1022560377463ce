"""Values: what a program works on when it is run by its tree, and the faults and ticks of every run.

A number is an int; funs, loops and waiting loops are objects that tell their kind.
"""

from waitloom.scopes import names_of
from waitloom.trees import is_number

MOST_OPENINGS = 30
GREATEST_LIMIT = 1000
CATCH_ALL = "any"


class Fault(Exception):
    """A fault of the language on its way to who catches it."""

    def __init__(self, word, number):
        Exception.__init__(self, f"the fault {word} with {number}")
        self.word = word
        self.number = number


class Dry(Exception):
    """More ticks than the limit lets; no catcher takes it."""


class Ticks:
    """The ticks that a run has left."""

    def __init__(self, limit):
        self.left = limit

    def tick(self):
        """Count one more, if one more is let."""
        if self.left == 0:
            raise Dry("no tick is left")
        self.left -= 1

    def tick_for_opening(self, openings):
        """Count a call or step that opens one more, where so many are open; too many are a fault, and no tick."""
        if openings >= MOST_OPENINGS:
            raise Fault("deep", 0)
        self.tick()


class Place:
    """The place of a name in one call of its function."""

    def __init__(self):
        self.value = None

    def give(self, value):
        """Give it another value."""
        self.value = value

    def asked(self):
        """Its value, or the fault where it has nothing yet."""
        if self.value is None:
            raise Fault("unset", 0)
        return self.value


class Function:
    """A fun, a loop or the program: its tree, and the places round it, by the names that are seen there."""

    def __init__(self, tree, places):
        self.kind = tree[0]
        self.params = tree[1]
        self.body = tree[2]
        self.names = names_of(tree[1], tree[2])
        self.places = places


def new_places(function, values):
    """The places that a call of a function sees: those round it, and new ones for its names."""
    places = dict(function.places)
    for name in function.names:
        places[name] = Place()
    for name, value in zip(function.params, values):
        places[name].give(value)
    return places


def need_number(value):
    """Tell the fault of a value that must be a number and is none."""
    if not isinstance(value, int):
        raise Fault("kind", 0)


def outcome(sign, first, second):
    """What a sign makes of two numbers."""
    if sign == "<":
        return 1 if first < second else 0
    if sign == "=":
        return 1 if first == second else 0
    if sign == "+":
        found = first + second
    elif sign == "-":
        found = first - second
    else:
        found = first * second
    if not is_number(found):
        raise Fault("great", 0)
    return found


def as_handed(value):
    """How a value that a program hands out stands in the row."""
    return value if isinstance(value, int) else value.kind


def catches_word(catcher, word):
    """Whether a catcher's word takes faults of a word."""
    return catcher == CATCH_ALL or catcher == word


def is_limit(thing):
    """Whether a thing may be a run's limit."""
    return is_number(thing) and 0 <= thing <= GREATEST_LIMIT


def are_inputs(thing, params):
    """Whether a thing is a list of as many numbers as there are parameters."""
    return isinstance(thing, list) and len(thing) == params and all([is_number(one) for one in thing])

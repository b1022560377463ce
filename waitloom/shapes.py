"""Shapes: of what form a code is, thing by thing. What is written on which way isn't asked here."""

from waitloom.trees import SIGNS, is_name, is_number

MOST_MACHINES = 300
MOST_PARAMS = 4
MOST_SLOTS = 1000
MOST_STATES = 2000
MOST_ROWS = 1000
MOST_CATCHES = 20

# Where the things of a machine stand in its tuple.
KIND = 0
OUTER = 1
PARAMS = 2
NAMES = 3
SLOTS = 4
BOXED = 5
TAKEN = 6
STATES = 7
MACHINE_LENGTH = 8

# Where the things of a state stand in its tuple.
ROWS = 0
END = 1
CATCHES = 2
STATE_LENGTH = 3

ROW_HEADS = ("number", "read", "write", "two", "make")
END_HEADS = ("go", "if", "while", "call", "step", "hand", "back", "fault")

# The shapes of the things behind each head: to is a middle slot that is written, of one that is read.
CODE_FORMS = {
    "number": ("to", "number"),
    "read": ("to", "place"),
    "write": ("place", "of"),
    "two": ("to", "sign", "of", "of"),
    "make": ("to", "machine"),
    "go": ("state",),
    "if": ("of", "state", "state"),
    "while": ("state",),
    "call": ("to", "of", "args", "state"),
    "step": ("to", "of", "state", "state"),
    "hand": ("of", "state"),
    "back": ("last",),
    "fault": ("fault word", "of"),
}
CATCH_SHAPES = ("word", "place", "state")


def is_whole(thing):
    """Whether a thing is a whole number."""
    return isinstance(thing, int) and not isinstance(thing, bool)


def is_index(thing, length):
    """Whether a thing is a number from nought on, below a length."""
    return is_whole(thing) and 0 <= thing < length


def is_tuple(thing, least, most):
    """Whether a thing is a tuple of such a length."""
    return isinstance(thing, tuple) and least <= len(thing) <= most


def is_member(thing, numbers):
    """Whether a thing is one of some numbers; True and False are none, though they are like some."""
    return is_whole(thing) and thing in numbers


def is_pair(thing):
    """Whether a thing is a tuple of a word and one thing more."""
    return is_tuple(thing, 2, 2) and isinstance(thing[0], str)


def is_far_place(thing, machine):
    """Whether a thing is a place of a machine that others can take."""
    if not is_pair(thing):
        return False
    if thing[0] == "box":
        return is_member(thing[1], machine[BOXED])
    return thing[0] == "taken" and is_index(thing[1], len(machine[TAKEN]))


def is_place(thing, machine):
    """Whether a thing is a place of a machine."""
    if is_pair(thing) and thing[0] == "slot":
        return is_index(thing[1], machine[NAMES]) and thing[1] not in machine[BOXED]
    return is_far_place(thing, machine)


def is_middle(thing, machine):
    """Whether a thing is a middle slot of a machine."""
    return is_index(thing, machine[SLOTS]) and thing >= machine[NAMES]


def has_shape(thing, shape, code, number):
    """Whether a thing has a shape, in the machine of this number."""
    machine = code[number]
    if shape in ("to", "of"):
        return is_middle(thing, machine)
    if shape == "args":
        return is_tuple(thing, 0, MOST_PARAMS) and all([is_middle(one, machine) for one in thing])
    if shape == "last":
        return thing is None or is_middle(thing, machine)
    if shape == "place":
        return is_place(thing, machine)
    if shape == "state":
        return is_index(thing, len(machine[STATES]))
    if shape == "machine":
        # The first machine has no round, and no other one is its own.
        return is_index(thing, len(code)) and code[thing][OUTER] == number
    if shape == "number":
        return is_number(thing)
    if shape == "sign":
        return isinstance(thing, str) and thing in SIGNS
    if shape == "word":
        return is_name(thing)
    return is_name(thing) and thing != "any"


def have_shapes(things, shapes, code, number):
    """Whether things have these shapes, one by one."""
    if len(things) != len(shapes):
        return False
    return all([has_shape(thing, shape, code, number) for thing, shape in zip(things, shapes)])


def has_form(thing, heads, code, number):
    """Whether a thing is a tuple of one of some heads, and behind it what this one wants."""
    if not isinstance(thing, tuple) or len(thing) == 0 or not isinstance(thing[0], str):
        return False
    return thing[0] in heads and have_shapes(thing[1:], CODE_FORMS[thing[0]], code, number)


def is_row(thing, code, number):
    """Whether a thing is a row in the machine of this number."""
    return has_form(thing, ROW_HEADS, code, number)


def is_end(thing, code, number):
    """Whether a thing is an end of a state in the machine of this number."""
    if not has_form(thing, END_HEADS, code, number):
        return False
    return thing[0] != "hand" or code[number][KIND] != "fun"


def is_catch(thing, code, number):
    """Whether a thing is a catch in the machine of this number."""
    return isinstance(thing, tuple) and have_shapes(thing, CATCH_SHAPES, code, number)


def is_state(thing, code, number):
    """Whether a thing is a state in the machine of this number."""
    if not is_tuple(thing, STATE_LENGTH, STATE_LENGTH):
        return False
    rows = thing[ROWS]
    catches = thing[CATCHES]
    if not is_tuple(rows, 0, MOST_ROWS) or not is_tuple(catches, 0, MOST_CATCHES):
        return False
    if not all([is_row(row, code, number) for row in rows]) or not is_end(thing[END], code, number):
        return False
    return all([is_catch(one, code, number) for one in catches])


def has_place_in_code(machine, number):
    """Whether a machine has the kind and the round of one with this number."""
    kind = machine[KIND]
    if not isinstance(kind, str):
        return False
    if number == 0:
        return kind == "main" and machine[OUTER] is None
    return kind in ("fun", "loop") and is_index(machine[OUTER], number)


def has_counts(machine):
    """Whether the parameters, names and slots of a machine are so many as may be."""
    if not is_index(machine[SLOTS], MOST_SLOTS + 1) or not is_index(machine[NAMES], machine[SLOTS] + 1):
        return False
    return is_index(machine[PARAMS], min(machine[NAMES], MOST_PARAMS) + 1)


def is_rising(thing, length):
    """Whether a thing is a tuple of numbers from nought on and below a length, each greater than the one ahead."""
    if not isinstance(thing, tuple) or not all([is_index(one, length) for one in thing]):
        return False
    return all([one < other for one, other in zip(thing, thing[1:])])


def has_outer_form(machine, number):
    """Whether a thing is a machine, but for what it takes and what stands in its states."""
    if not is_tuple(machine, MACHINE_LENGTH, MACHINE_LENGTH):
        return False
    if not has_place_in_code(machine, number) or not has_counts(machine):
        return False
    if not is_rising(machine[BOXED], machine[NAMES]):
        return False
    return isinstance(machine[TAKEN], tuple) and is_tuple(machine[STATES], 1, MOST_STATES)


def has_inner_form(code, number):
    """Whether what a machine takes is there in its round, and its states are of the form told."""
    machine = code[number]
    if number == 0:
        takes_well = len(machine[TAKEN]) == 0
    else:
        takes_well = all([is_far_place(one, code[machine[OUTER]]) for one in machine[TAKEN]])
    return takes_well and all([is_state(one, code, number) for one in machine[STATES]])


def is_code(thing):
    """Whether a thing is of the form of a code."""
    if not is_tuple(thing, 1, MOST_MACHINES):
        return False
    # Machines speak of one another, so all are asked for their outer form first.
    if not all([has_outer_form(machine, number) for number, machine in enumerate(thing)]):
        return False
    return all([has_inner_form(thing, number) for number in range(len(thing))])

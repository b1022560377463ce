"""Trees: what a program is, and which parts stand in it."""

from waitloom.errors import BadTree

GREATEST_NUMBER = 1000000000000
MOST_LETTERS = 8
MOST_NAMES = 4
MOST_TERMS = 4
MOST_STATEMENTS = 12
MOST_PARTS = 300
MOST_DEPTH = 20

SIGNS = ("+", "-", "*", "<", "=")

# The shapes of the things behind each head, in order. A word is a fault's; a catcher's is any name.
FORMS = {
    "main": ("names", "body"),
    "number": ("number",),
    "name": ("name",),
    "two": ("sign", "term", "term"),
    "fun": ("names", "body"),
    "loop": ("names", "body"),
    "call": ("term", "terms"),
    "step": ("term", "term"),
    "let": ("name", "term"),
    "set": ("name", "term"),
    "do": ("term",),
    "if": ("term", "body", "body"),
    "while": ("term", "body"),
    "hand": ("term",),
    "back": ("term",),
    "fault": ("word", "term"),
    "try": ("body", "name", "name", "body", "body"),
}

HEADS = {
    "program": ("main",),
    "term": ("number", "name", "two", "fun", "loop", "call", "step"),
    "statement": ("let", "set", "do", "if", "while", "hand", "back", "fault", "try"),
}

# The shape of each thing in a row of things.
MEMBERS = {"names": "name", "terms": "term", "body": "statement"}


def is_name(thing):
    """Whether a thing is a name."""
    if not isinstance(thing, str) or not 1 <= len(thing) <= MOST_LETTERS:
        return False
    return all(["a" <= letter <= "z" for letter in thing])


def is_number(thing):
    """Whether a thing is a number of the language."""
    if not isinstance(thing, int) or isinstance(thing, bool):
        return False
    return -GREATEST_NUMBER <= thing <= GREATEST_NUMBER


def is_row(thing, most):
    """Whether a thing is a tuple that isn't too long, whatever stands in it."""
    return isinstance(thing, tuple) and len(thing) <= most


def are_names(thing):
    """Whether a thing is a tuple of unlike names, as a function has them."""
    if not is_row(thing, MOST_NAMES) or not all([is_name(one) for one in thing]):
        return False
    return len(set(thing)) == len(thing)


def has_shape(thing, shape):
    """Whether a thing has a shape; terms and statements within are not asked here."""
    if shape == "number":
        return is_number(thing)
    if shape == "name":
        return is_name(thing)
    if shape == "word":
        return is_name(thing) and thing != "any"
    if shape == "sign":
        return isinstance(thing, str) and thing in SIGNS
    if shape == "names":
        return are_names(thing)
    if shape == "terms":
        return is_row(thing, MOST_TERMS)
    if shape == "body":
        return is_row(thing, MOST_STATEMENTS)
    return True


def has_form(thing, shape, hands):
    """Whether a thing is a program, a term or a statement, but for the parts in it.

    A hand is one only where hands holds.
    """
    # The head is compared only once it is known to be a text: other things may claim to be like anything.
    if not isinstance(thing, tuple) or len(thing) == 0 or not isinstance(thing[0], str):
        return False
    head = thing[0]
    if head not in HEADS[shape]:
        return False
    if head == "hand" and not hands:
        return False
    shapes = FORMS[head]
    if len(thing) != len(shapes) + 1:
        return False
    return all([has_shape(one, wanted) for one, wanted in zip(thing[1:], shapes)])


def inner_with_shapes(part):
    """Tuples of a part right in this one and its shape, term or statement, as they stand."""
    found = []
    for thing, shape in zip(part[1:], FORMS[part[0]]):
        if shape == "term":
            found.append((thing, shape))
        elif shape in ("terms", "body"):
            found.extend([(one, MEMBERS[shape]) for one in thing])
    return found


def hands_within(part, hands):
    """Whether a hand may stand right in a part, where hands tells it of the place of the part."""
    if part[0] == "fun":
        return False
    return hands or part[0] in ("main", "loop")


def is_program(thing):
    """Whether a thing is a program.

    It is walked level by level and left as soon as it is too deep or too large, so no depth of it matters.
    """
    level = [(thing, "program", False)]
    depth = 0
    size = 0
    while level:
        depth += 1
        size += len(level)
        if depth > MOST_DEPTH or size > MOST_PARTS:
            return False
        below = []
        for part, shape, hands in level:
            if not has_form(part, shape, hands):
                return False
            within = hands_within(part, hands)
            below.extend([(inner, inner_shape, within) for inner, inner_shape in inner_with_shapes(part)])
        level = below
    return True


def need_program(thing):
    """Refuse what is no program."""
    if not is_program(thing):
        raise BadTree("this is no program")


def inner_of(part):
    """The list of the terms and statements right in a part, as they stand in its text."""
    return [inner for inner, shape in inner_with_shapes(part)]


def level_sizes(part):
    """How many parts stand on each level of a part, itself being the first level."""
    sizes = []
    level = [part]
    while level:
        sizes.append(len(level))
        below = []
        for one in level:
            below.extend(inner_of(one))
        level = below
    return sizes


def size_of(part):
    """How many parts a part has, with itself."""
    return sum(level_sizes(part))


def depth_of(part):
    """The depth of a part."""
    return len(level_sizes(part))

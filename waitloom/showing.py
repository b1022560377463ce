"""Showing: a program becomes a text.

A program that was asked for is at most 20 deep, so the walk may call itself.
"""

from waitloom.reading import OPEN_ENDED
from waitloom.trees import FORMS, MEMBERS, need_program


def shown_thing(thing, shape):
    """The text of a thing of a shape."""
    if shape in ("term", "statement"):
        return shown_part(thing)
    if shape in MEMBERS:
        return "(" + " ".join(shown_members(thing, shape)) + ")"
    return str(thing)


def shown_members(things, shape):
    """The texts of the things in a row of things of a shape."""
    return [shown_thing(one, MEMBERS[shape]) for one in things]


def shown_part(part):
    """The text of a part."""
    head = part[0]
    if head in ("number", "name"):
        return str(part[1])
    words = [] if head == "two" else [head]
    shapes = FORMS[head]
    for thing, shape in zip(part[1:], shapes):
        if head in OPEN_ENDED and shape == shapes[-1]:
            words.extend(shown_members(thing, shape))
        else:
            words.append(shown_thing(thing, shape))
    return "(" + " ".join(words) + ")"


def shown(program):
    """The text of a program, with one blank between words."""
    need_program(program)
    return shown_part(program)

"""Reading: a text becomes a program.

The open brackets are kept in a list, so that no depth of them matters. What is built on the way
need not be right: the whole is asked at the end whether it is a program.
"""

from waitloom.errors import BadText
from waitloom.trees import FORMS, HEADS, MEMBERS, SIGNS, is_name, is_program
from waitloom.words import words_of

# Heads of trees that no text has.
UNWRITTEN = ("number", "name", "two")
# The last things of these stand in a text without brackets of their own.
OPEN_ENDED = ("main", "fun", "loop", "call")
# What a text writes in brackets, or may write so.
BRACKETED = ("program", "term", "statement", "names", "body")
MOST_FIGURES = 13


class Opening:
    """An open bracket: the shape of what it opens, and the things in it so far. The text is one too."""

    def __init__(self, shape):
        self.shape = shape
        self.things = []

    def wanted(self):
        """The shape of what may stand here next, None where nothing may."""
        if self.shape == "text":
            return "program"
        if self.shape in MEMBERS:
            return MEMBERS[self.shape]
        if len(self.things) == 0:
            return "head"
        return shape_behind(self.things[0], len(self.things) - 1)

    def closed(self):
        """What the bracket holds, when it is closed."""
        if self.shape in MEMBERS or len(self.things) == 0:
            return tuple(self.things)
        head = self.things[0]
        if head in SIGNS:
            return ("two",) + tuple(self.things)
        if head in OPEN_ENDED:
            first = len(FORMS[head])
            return tuple(self.things[:first]) + (tuple(self.things[first:]),)
        return tuple(self.things)


def shape_behind(head, place):
    """The shape of the thing at a place behind a head, None where there is no such place."""
    shapes = FORMS["two"][1:] if head in SIGNS else FORMS[head]
    last = len(shapes) - 1
    if head in OPEN_ENDED and place >= last:
        return MEMBERS[shapes[last]]
    return shapes[place] if place <= last else None


def is_head(word, shape):
    """Whether a text may begin a part of a shape by a word."""
    if word in SIGNS:
        return shape == "term"
    return word in HEADS[shape] and word not in UNWRITTEN


def is_numeral(word):
    """Whether a word is written as a number; one that is far too long is not, so that none is too long for int."""
    figures = word[1:] if word.startswith("-") else word
    if not figures.isdigit() or len(figures) > MOST_FIGURES:
        return False
    return word == "0" or not figures.startswith("0")


def term_of(word):
    """The term that a word by itself tells."""
    if is_name(word):
        return ("name", word)
    if is_numeral(word):
        return ("number", int(word))
    raise BadText("a word is neither a name nor a number")


def thing_of(word, opening):
    """What a word that is no bracket tells, where it stands."""
    wanted = opening.wanted()
    if wanted == "head" and is_head(word, opening.shape):
        return word
    if wanted in ("name", "word"):
        return word
    if wanted == "term":
        return term_of(word)
    raise BadText("a word stands where it can't")


def take_word(openings, word):
    """Bring one more word to the open brackets, the innermost of which is the last."""
    innermost = openings[-1]
    if word == ")":
        if len(openings) == 1:
            raise BadText("a bracket closes that none opens")
        openings.pop()
        openings[-1].things.append(innermost.closed())
    elif word == "(":
        wanted = innermost.wanted()
        if wanted not in BRACKETED:
            raise BadText("a bracket opens where it can't")
        openings.append(Opening(wanted))
    else:
        innermost.things.append(thing_of(word, innermost))


def read(text):
    """The program that a text tells."""
    openings = [Opening("text")]
    for word in words_of(text):
        take_word(openings, word)
    found = openings[0].things
    if len(openings) != 1 or len(found) != 1 or not is_program(found[0]):
        raise BadText("the text tells no program")
    return found[0]

"""Scopes: the functions of a program, the names that each has, takes, and keeps in boxes."""

from waitloom.errors import BadName
from waitloom.trees import inner_of, need_program

# What begins a function where it stands within another one.
INNER_KINDS = ("fun", "loop")


def functions_of(program):
    """A list of tuples (kind, parameters, body, number of the function right round it), as they begin in the text."""
    need_program(program)
    found = []
    ahead = [(program, None)]
    while ahead:
        pair = ahead.pop()
        part = pair[0]
        outer = pair[1]
        if part[0] == "main" or part[0] in INNER_KINDS:
            found.append((part[0], part[1], part[2], outer))
            outer = len(found) - 1
        ahead.extend([(inner, outer) for inner in reversed(inner_of(part))])
    return found


def brought_by(body):
    """The list of the names that a body brings to its function, as they stand, each as often as it is told."""
    found = []
    for statement in body:
        head = statement[0]
        if head == "let":
            found.append(statement[1])
        elif head == "if":
            found.extend(brought_by(statement[2]) + brought_by(statement[3]))
        elif head == "while":
            found.extend(brought_by(statement[2]))
        elif head == "try":
            found.extend(brought_by(statement[1]) + [statement[3]])
            found.extend(brought_by(statement[4]) + brought_by(statement[5]))
    return found


def names_of(params, body):
    """The list of the names of a function, its parameters first."""
    return list(params) + brought_by(body)


def used_in(body):
    """The list of the names that a body itself reads or sets, as they stand; functions within are left out."""
    found = []
    ahead = list(reversed(body))
    while ahead:
        part = ahead.pop()
        if part[0] in ("name", "set"):
            found.append(part[1])
        if part[0] not in INNER_KINDS:
            ahead.extend(list(reversed(inner_of(part))))
    return found


class Scope:
    """A function of a program with its names, and those that it uses, takes and keeps in boxes."""

    def __init__(self, function):
        self.kind = function[0]
        self.outer = function[3]
        self.names = names_of(function[1], function[2])
        self.used = used_in(function[2])
        # Dicts of True, since a name may be used at many places.
        self.boxed = {}
        self.taken = {}

    def shown_scope(self):
        """The tuple that is told of it."""
        return (self.kind, tuple(self.names), tuple(sorted(self.boxed)), tuple(sorted(self.taken)))


def owner_of(scopes, number, name):
    """The number of the innermost function round this one, itself with them, that has a name; None without one."""
    while number is not None and name not in scopes[number].names:
        number = scopes[number].outer
    return number


def refuse_names(scopes, number):
    """Refuse a name that a function has twice, then one that it uses and none has."""
    told = {}
    for name in scopes[number].names:
        if name in told:
            raise BadName(name)
        told[name] = True
    for name in scopes[number].used:
        if owner_of(scopes, number, name) is None:
            raise BadName(name)


def take_name(scopes, number, name):
    """Note that a function uses a name: each one from it out to the owner takes it, and the owner keeps it in a box."""
    owner = owner_of(scopes, number, name)
    if owner == number:
        return
    scopes[owner].boxed[scopes[owner].names.index(name)] = True
    while number != owner:
        scopes[number].taken[name] = True
        number = scopes[number].outer


def scopes_of(program):
    """A list of tuples (kind, names, boxed, taken), one for each function in order."""
    scopes = [Scope(function) for function in functions_of(program)]
    for number in range(len(scopes)):
        refuse_names(scopes, number)
    for number, scope in enumerate(scopes):
        for name in scope.used:
            take_name(scopes, number, name)
    return [scope.shown_scope() for scope in scopes]

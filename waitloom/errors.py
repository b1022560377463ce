"""The refusals of the program, one class for each."""


class LoomError(ValueError):
    """Any refusal."""


class BadTree(LoomError):
    """What is no program."""


class BadText(LoomError):
    """What is no text, or can't be read."""


class BadName(LoomError):
    """A name that a function would have twice, or that none has."""

    def __init__(self, name):
        LoomError.__init__(self, f"the name {name} is refused")
        self.name = name


class BadCount(LoomError):
    """Inputs, a limit or a room that can't be."""


class BadCode(LoomError):
    """A code that isn't sound."""


class NoThing(LoomError):
    """A number that no thing on the heap has."""

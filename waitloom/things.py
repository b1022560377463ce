"""Things: what stands on the heap, and which other things stand in it."""


def named_by(values):
    """The list of the things that some values are, each as often as it stands; numbers and nothing are none."""
    return [value[1] for value in values if value is not None and value[0] == "thing"]


def named_in(thing):
    """The list of the things that stand right in a thing."""
    kind = thing[0]
    if kind == "box":
        return named_by(thing[1:])
    if kind == "waiting":
        return named_by(thing[3]) + list(thing[4]) + list(thing[5])
    return list(thing[2])


def open_waiting(number, taken):
    """A waiting loop of a machine while it is stepped."""
    return ("waiting", number, "open", (), (), taken)


def ended_waiting(number):
    """A waiting loop of a machine that has ended."""
    return ("waiting", number, "ended", (), (), ())

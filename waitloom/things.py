"""Things: what stands on the heap, and which other things stand in it."""


def named_by(value):
    """The list of the things that a value is: one, or none where it is a number or nothing."""
    if value is None or value[0] != "thing":
        return []
    return [value[1]]


def named_by_all(values):
    """The list of the things that some values are, each as often as it stands."""
    found = []
    for value in values:
        found.extend(named_by(value))
    return found


def named_in(thing):
    """The list of the things that stand right in a thing."""
    kind = thing[0]
    if kind == "box":
        return named_by(thing[1])
    if kind == "waiting":
        return named_by_all(thing[3]) + list(thing[4]) + list(thing[5])
    return list(thing[2])


def open_waiting(number, taken):
    """A waiting loop of a machine while it is stepped."""
    return ("waiting", number, "open", (), (), taken)


def ended_waiting(number):
    """A waiting loop of a machine that has ended."""
    return ("waiting", number, "ended", (), (), ())

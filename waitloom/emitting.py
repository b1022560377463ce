"""Emitting: the states of one machine, as they are written."""


def place_in(scope, name):
    """The place of a name as a function sees it, that has it or takes it."""
    names = scope[1]
    if name in names:
        number = names.index(name)
        return ("box" if number in scope[2] else "slot", number)
    return ("taken", scope[3].index(name))


class Emitter:
    """The states of a machine so far, and the one that is being written."""

    def __init__(self, scope, inner_machines):
        self.scope = scope
        # The machines whose round this is, in the order in which their terms stand.
        self.inner_machines = inner_machines
        self.made = 0
        self.names = len(scope[1])
        self.slots = self.names
        # What the tries round the state catch, the innermost first.
        self.catches = ()
        self.states = [None]
        self.current = 0
        self.rows = []

    def middle(self, level):
        """The middle slot of a level; terms that wait for others keep their values on levels below."""
        slot = self.names + level
        self.slots = max(self.slots, slot + 1)
        return slot

    def place(self, name):
        """The place of a name here."""
        return place_in(self.scope, name)

    def inner_machine(self):
        """The number of the machine of the next fun or loop within."""
        self.made += 1
        return self.inner_machines[self.made - 1]

    def emit(self, row):
        """Write one more row."""
        self.rows.append(row)

    def reserve(self):
        """The number of a new state, to be written later."""
        self.states.append(None)
        return len(self.states) - 1

    def close(self, end):
        """End the state that is being written."""
        self.states[self.current] = (tuple(self.rows), end, self.catches)

    def begin(self, state):
        """Write this state from now on."""
        self.current = state
        self.rows = []

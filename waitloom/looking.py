"""Looking: whether a code is sound.

What is written is kept as one whole number for each state, with a bit for each slot, so that what holds on
several ways is found by one sign.
"""

from waitloom.shapes import CATCHES, CODE_FORMS, END, ROWS, STATES, is_code


def bits_of(slots):
    """The bits of some slots."""
    bits = 0
    for slot in slots:
        bits |= 1 << slot
    return bits


def slots_read(thing):
    """The list of the slots that a row or an end reads."""
    found = []
    for one, shape in zip(thing[1:], CODE_FORMS[thing[0]]):
        if shape == "of" or shape == "last" and one is not None:
            found.append(one)
        elif shape == "args":
            found.extend(one)
    return found


def slots_written(thing):
    """The list of the slots that a row or an end writes."""
    return [one for one, shape in zip(thing[1:], CODE_FORMS[thing[0]]) if shape == "to"]


def states_named(end):
    """The list of the states that an end names, as they stand."""
    return [one for one, shape in zip(end[1:], CODE_FORMS[end[0]]) if shape == "state"]


class Passage:
    """What a state needs to be written ahead of it, and its ways: tuples of a state and the bits that come along."""

    def __init__(self, state):
        self.needed = 0
        self.written = 0
        self.ways = [(one[2], 0) for one in state[CATCHES]]
        for row in state[ROWS]:
            self.need_slots(slots_read(row))
            self.written |= bits_of(slots_written(row))
        self.end_so(state[END])

    def need_slots(self, slots):
        """Note that slots are read now."""
        self.needed |= bits_of(slots) & ~self.written

    def end_so(self, end):
        """Note what an end reads, and the ways that lead on from it."""
        self.need_slots(slots_read(end))
        told = self.written | bits_of(slots_written(end))
        for place, number in enumerate(states_named(end)):
            # Only the first state behind an end finds what was told; the other one of a step finds a loop that ended.
            self.ways.append((number, told if place == 0 else self.written))


def written_ahead(passages):
    """A dict of the states to which a way leads, with the bits of what is written on every way there."""
    ahead = {0: 0}
    changed = [0]
    while changed:
        behind = {}
        for number in changed:
            for target, brought in passages[number].ways:
                bits = ahead[number] | brought
                if target in ahead:
                    bits &= ahead[target]
                if target not in ahead or bits != ahead[target]:
                    ahead[target] = bits
                    behind[target] = True
        changed = list(behind)
    return ahead


def reads_well(machine):
    """Whether no middle slot of a machine is read that isn't written on every way."""
    passages = [Passage(state) for state in machine[STATES]]
    ahead = written_ahead(passages)
    return all([passages[number].needed & ~ahead[number] == 0 for number in ahead])


def is_sound(thing):
    """Whether a thing is a sound code."""
    return is_code(thing) and all([reads_well(machine) for machine in thing])

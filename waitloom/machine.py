"""Machine: a code is run state by state, with a heap that is collected whenever it holds more than its room."""

from waitloom.doing import Run, do_state
from waitloom.errors import BadCode, BadCount
from waitloom.heap import Heap
from waitloom.looking import is_sound
from waitloom.shapes import PARAMS, is_index
from waitloom.values import are_inputs, is_limit

GREATEST_ROOM = 1000


class Machine:
    """A run of a sound code that is gone through state by state."""

    def __init__(self, code, inputs, limit, room):
        if not is_sound(code):
            raise BadCode("this is no sound code")
        if not are_inputs(inputs, code[0][PARAMS]) or not is_limit(limit):
            raise BadCount("the inputs or the limit can't be")
        if not is_index(room, GREATEST_ROOM + 1):
            raise BadCount("the room can't be")
        self.heap = Heap()
        self.run = Run(code, self.heap, inputs, limit)
        self.room = room
        self.lost = 0

    def go(self):
        """Do one state, and collect behind it; nothing where the run is over."""
        if self.is_over():
            return
        do_state(self.run)
        if self.heap.size() > self.room:
            self.lost += len(self.heap.collect(self.roots()))

    def is_over(self):
        """Whether the run is over."""
        return self.run.over is not None

    def row(self):
        """The list of what was handed out so far."""
        return list(self.run.handed)

    def ending(self):
        """The ending, None as long as the run isn't over."""
        return self.run.over

    def roots(self):
        """The list of the values that the open frames keep, each as often as it stands there."""
        found = []
        for frame in self.run.frames:
            found.extend(frame.root_values())
        return found

    def gone(self):
        """How many things were taken away so far."""
        return self.lost


def run_code(code, inputs, limit, room):
    """Run a code to its ending: a tuple of the row and the ending."""
    machine = Machine(code, inputs, limit, room)
    while not machine.is_over():
        machine.go()
    return (machine.row(), machine.ending())

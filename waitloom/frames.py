"""Frames: machines at work, each with its slots and boxes, and how they wait on the heap."""

from waitloom.shapes import BOXED, SLOTS, STATES
from waitloom.things import ended_waiting, open_waiting
from waitloom.values import Fault


class Frame:
    """A machine at work: the state at which it is, its slots, its boxes and those that it takes."""

    def __init__(self, machine, slots, boxes, taken):
        self.machine = machine
        self.at = 0
        self.slots = slots
        self.boxes = boxes
        self.taken = taken
        # The number of the waiting loop that is stepped so, None for a fun's and a program's.
        self.waiting = None

    def state(self):
        """The state at which it is."""
        return self.machine[STATES][self.at]

    def box_number(self, place):
        """The number of the box of a name that is boxed or taken."""
        if place[0] == "box":
            return self.boxes[self.machine[BOXED].index(place[1])]
        return self.taken[place[1]]

    def root_values(self):
        """The list of the values that this frame keeps."""
        things = list(self.boxes + self.taken)
        if self.waiting is not None:
            things.append(self.waiting)
        return [value for value in self.slots if value is not None] + [("thing", number) for number in things]


def new_frame(heap, machine, values, taken):
    """A frame at the beginning of a machine, with the values of its parameters."""
    slots = list(values) + [None] * (machine[SLOTS] - len(values))
    boxes = []
    for name in machine[BOXED]:
        boxes.append(heap.put(("box", slots[name])))
        slots[name] = None
    return Frame(machine, slots, tuple(boxes), taken)


def read_place(heap, frame, place):
    """The value of a place, or the fault where it has nothing."""
    if place[0] == "slot":
        value = frame.slots[place[1]]
    else:
        value = heap.thing(frame.box_number(place))[1]
    if value is None:
        raise Fault("unset", 0)
    return value


def write_place(heap, frame, place, value):
    """Give a place another value."""
    if place[0] == "slot":
        frame.slots[place[1]] = value
    else:
        heap.change(frame.box_number(place), ("box", value))


def waiting_thing(number, frame):
    """The waiting loop that goes on with a frame of the machine of a number."""
    return ("waiting", number, frame.at, tuple(frame.slots), frame.boxes, frame.taken)


def resume(heap, code, number):
    """The frame of a waiting loop, which is stepped from now on."""
    thing = heap.thing(number)
    frame = Frame(code[thing[1]], list(thing[3]), thing[4], thing[5])
    frame.at = thing[2]
    frame.waiting = number
    heap.change(number, open_waiting(thing[1], frame.taken))
    return frame


def suspend(heap, frame):
    """The loop of a frame waits at the state where the frame is."""
    heap.change(frame.waiting, waiting_thing(heap.thing(frame.waiting)[1], frame))


def finish(heap, frame):
    """A frame is left for good; if it is a loop's, this one has ended."""
    if frame.waiting is not None:
        heap.change(frame.waiting, ended_waiting(heap.thing(frame.waiting)[1]))

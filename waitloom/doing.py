"""Doing: a run of a code goes on by one state, its rows and its end."""

from waitloom.frames import finish, new_frame, read_place, resume, suspend, waiting_thing, write_place
from waitloom.shapes import CATCHES, END, KIND, PARAMS, ROWS, TAKEN
from waitloom.values import Dry, Fault, Ticks, catches_word, outcome


class Run:
    """A run of a code: its heap, the frames that are open, the innermost being the last, and what was handed out."""

    def __init__(self, code, heap, inputs, limit):
        self.code = code
        self.heap = heap
        self.frames = [new_frame(heap, code[0], [("number", n) for n in inputs], ())]
        self.ticks = Ticks(limit)
        self.handed = []
        # The ending, None as long as there is more to do.
        self.over = None

    def finish_run(self, ending):
        """The run is over, and no frame is open any more."""
        self.over = ending
        self.frames = []

    def thing_of(self, value):
        """The thing that a value is; of a number, the number itself."""
        return self.heap.thing(value[1]) if value[0] == "thing" else value

    def count_opening(self):
        """Count one more call or step that opens a frame."""
        # The program's own frame is no open call.
        self.ticks.tick_for_opening(len(self.frames) - 1)


def number_of(value):
    """The number that a value is, or the fault where it is none."""
    if value[0] != "number":
        raise Fault("kind", 0)
    return value[1]


def do_number(run, frame, row):
    frame.slots[row[1]] = ("number", row[2])


def do_read(run, frame, row):
    frame.slots[row[1]] = read_place(run.heap, frame, row[2])


def do_write(run, frame, row):
    write_place(run.heap, frame, row[1], frame.slots[row[2]])


def do_two(run, frame, row):
    first = number_of(frame.slots[row[3]])
    second = number_of(frame.slots[row[4]])
    frame.slots[row[1]] = ("number", outcome(row[2], first, second))


def do_make(run, frame, row):
    machine = run.code[row[2]]
    taken = tuple([frame.box_number(place) for place in machine[TAKEN]])
    frame.slots[row[1]] = ("thing", run.heap.put((machine[KIND], row[2], taken)))


ROW_DOERS = {
    "number": do_number,
    "read": do_read,
    "write": do_write,
    "two": do_two,
    "make": do_make,
}


def do_go(run, frame, end):
    frame.at = end[1]


def do_if(run, frame, end):
    frame.at = end[2] if number_of(frame.slots[end[1]]) != 0 else end[3]


def do_while(run, frame, end):
    run.ticks.tick()
    frame.at = end[1]


def tell(frame, value):
    """What a frame called or stepped has told a value: it goes to its slot, and the frame goes on."""
    end = frame.state()[END]
    frame.slots[end[1]] = value
    frame.at = end[4] if end[0] == "call" else end[3]


def do_call(run, frame, end):
    function = run.thing_of(frame.slots[end[2]])
    if function[0] not in ("fun", "loop"):
        raise Fault("kind", 0)
    machine = run.code[function[1]]
    values = [frame.slots[slot] for slot in end[3]]
    if len(values) != machine[PARAMS]:
        raise Fault("count", 0)
    if function[0] == "fun":
        run.count_opening()
        run.frames.append(new_frame(run.heap, machine, values, function[2]))
    else:
        beginning = new_frame(run.heap, machine, values, function[2])
        tell(frame, ("thing", run.heap.put(waiting_thing(function[1], beginning))))


def do_step(run, frame, end):
    value = frame.slots[end[2]]
    waiting = run.thing_of(value)
    if waiting[0] != "waiting":
        raise Fault("kind", 0)
    if waiting[2] == "open":
        raise Fault("busy", 0)
    if waiting[2] == "ended":
        frame.at = end[4]
    else:
        run.count_opening()
        run.frames.append(resume(run.heap, run.code, value[1]))


def do_hand(run, frame, end):
    value = frame.slots[end[1]]
    frame.at = end[2]
    if frame.waiting is None:
        thing = run.thing_of(value)
        run.handed.append(thing[1] if thing[0] == "number" else thing[0])
    else:
        suspend(run.heap, frame)
        run.frames.pop()
        tell(run.frames[-1], value)


def do_back(run, frame, end):
    value = ("number", 0) if end[1] is None else frame.slots[end[1]]
    finish(run.heap, frame)
    run.frames.pop()
    if len(run.frames) == 0:
        run.finish_run(("end",))
    elif frame.waiting is None:
        tell(run.frames[-1], value)
    else:
        outer = run.frames[-1]
        outer.at = outer.state()[END][4]


def do_fault(run, frame, end):
    raise Fault(end[1], number_of(frame.slots[end[2]]))


END_DOERS = {
    "go": do_go,
    "if": do_if,
    "while": do_while,
    "call": do_call,
    "step": do_step,
    "hand": do_hand,
    "back": do_back,
    "fault": do_fault,
}


def catch_in(frame, word):
    """The first catch of a frame's state that takes faults of a word, None without one."""
    for one in frame.state()[CATCHES]:
        if catches_word(one[0], word):
            return one
    return None


def take_fault(run, fault):
    """A fault goes out from the innermost frame to the first state that catches it."""
    while run.frames:
        frame = run.frames[-1]
        caught = catch_in(frame, fault.word)
        if caught is not None:
            write_place(run.heap, frame, caught[1], ("number", fault.number))
            frame.at = caught[2]
            return
        finish(run.heap, frame)
        run.frames.pop()
    run.finish_run(("fault", fault.word, fault.number))


def do_state(run):
    """Do the state of the innermost frame, with its end whole."""
    frame = run.frames[-1]
    state = frame.state()
    try:
        for row in state[ROWS]:
            ROW_DOERS[row[0]](run, frame, row)
        END_DOERS[state[END][0]](run, frame, state[END])
    except Fault as fault:
        take_fault(run, fault)
    except Dry:
        run.finish_run(("dry",))

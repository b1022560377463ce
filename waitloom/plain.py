"""Plain: a program is run by its tree, part by part.

Terms and statements are put into the work of a course; besides them stand there what is to be done with the
values that terms have told, under heads of their own (combine, give, drop and so on).
"""

from waitloom.errors import BadCount
from waitloom.scopes import scopes_of
from waitloom.values import Dry, Fault, Function, Ticks, are_inputs, as_handed, is_limit, need_number, outcome
from waitloom.waits import Course, Waiting


class PlainRun:
    """A run by the tree: the courses that are open, the innermost being the last, and what was handed out."""

    def __init__(self, program, inputs, limit):
        self.courses = [Course(Function(program, {}), inputs)]
        self.ticks = Ticks(limit)
        self.handed = []
        # The ending, None as long as there is more to do.
        self.over = None

    def innermost(self):
        """The course that is at work."""
        return self.courses[-1]

    def count_opening(self):
        """Count one more call or step that opens a course."""
        # The program's own course is no open call.
        self.ticks.tick_for_opening(len(self.courses) - 1)


def do_number(run, part):
    run.innermost().tell(part[1])


def do_name(run, part):
    course = run.innermost()
    course.tell(course.places[part[1]].asked())


def do_two(run, part):
    run.innermost().plan((part[2], part[3], ("combine", part[1])))


def do_combine(run, part):
    course = run.innermost()
    second = course.use()
    first = course.use()
    need_number(first)
    need_number(second)
    course.tell(outcome(part[1], first, second))


def do_function(run, part):
    course = run.innermost()
    course.tell(Function(part, course.places))


def do_call(run, part):
    terms = part[2]
    run.innermost().plan((part[1],) + terms + (("enter", len(terms)),))


def do_enter(run, part):
    course = run.innermost()
    values = [course.use() for k in range(part[1])]
    values.reverse()
    function = course.use()
    if not isinstance(function, Function):
        raise Fault("kind", 0)
    if len(values) != len(function.params):
        raise Fault("count", 0)
    if function.kind == "loop":
        course.tell(Waiting(function, values))
    else:
        run.count_opening()
        run.courses.append(Course(function, values))


def do_step(run, part):
    run.innermost().plan((part[1], ("resume", part[2])))


def do_resume(run, part):
    course = run.innermost()
    waiting = course.use()
    if not isinstance(waiting, Waiting):
        raise Fault("kind", 0)
    if waiting.stepped:
        raise Fault("busy", 0)
    if waiting.has_ended():
        course.plan((part[1],))
    else:
        run.count_opening()
        # It stays in the stepper's work while the step is open, for who comes back from the loop to take.
        course.plan((("stepped", part[1]),))
        run.courses.append(waiting.begin_step())


def do_give_term(run, part):
    run.innermost().plan((part[2], ("give", part[1])))


def do_give(run, part):
    course = run.innermost()
    course.places[part[1]].give(course.use())


def do_do(run, part):
    run.innermost().plan((part[1], ("drop",)))


def do_drop(run, part):
    run.innermost().use()


def holds(value):
    """Whether a test holds that told a value."""
    need_number(value)
    return value != 0


def do_if(run, part):
    run.innermost().plan((part[1], ("choose", part[2], part[3])))


def do_choose(run, part):
    course = run.innermost()
    course.plan(part[1] if holds(course.use()) else part[2])


def do_while(run, part):
    run.ticks.tick()
    run.innermost().plan((part[1], ("choose", part[2] + (part,), ())))


def do_hand(run, part):
    run.innermost().plan((part[1], ("handout",)))


def do_handout(run, part):
    course = run.innermost()
    value = course.use()
    if course.waiting is None:
        run.handed.append(as_handed(value))
    else:
        course.waiting.wait()
        run.courses.pop()
        run.innermost().work.pop()
        run.innermost().tell(value)


def do_back(run, part):
    run.innermost().plan((part[1], ("leave",)))


def do_leave(run, part):
    leave_course(run, run.innermost().use())


def do_fault(run, part):
    run.innermost().plan((part[2], ("throw", part[1])))


def do_throw(run, part):
    number = run.innermost().use()
    need_number(number)
    raise Fault(part[1], number)


def do_try(run, part):
    run.innermost().plan(part[1] + (("within", part),))


def do_within(run, part):
    run.innermost().plan(part[1][5])


DOERS = {
    "number": do_number,
    "name": do_name,
    "two": do_two,
    "combine": do_combine,
    "fun": do_function,
    "loop": do_function,
    "call": do_call,
    "enter": do_enter,
    "step": do_step,
    "resume": do_resume,
    "let": do_give_term,
    "set": do_give_term,
    "give": do_give,
    "do": do_do,
    "drop": do_drop,
    "if": do_if,
    "choose": do_choose,
    "while": do_while,
    "hand": do_hand,
    "handout": do_handout,
    "back": do_back,
    "leave": do_leave,
    "fault": do_fault,
    "throw": do_throw,
    "try": do_try,
    "within": do_within,
}


def leave_course(run, value):
    """The innermost course is at its end, with a value that is told where it is a fun's."""
    course = run.courses.pop()
    if len(run.courses) == 0:
        run.over = ("end",)
    elif course.waiting is None:
        run.innermost().tell(value)
    else:
        course.waiting.finish()
        stepped = run.innermost().work.pop()
        run.innermost().plan((stepped[1],))


def take_fault(run, fault):
    """A fault goes out from the innermost course to the first try that catches it."""
    while run.courses:
        course = run.innermost()
        catcher = course.catcher(fault.word)
        if catcher is not None:
            course.places[catcher[3]].give(fault.number)
            course.plan(catcher[4])
            return
        if course.waiting is not None:
            course.waiting.finish()
        run.courses.pop()
    run.over = ("fault", fault.word, fault.number)


def go_on(run):
    """Do the next thing of the innermost course."""
    course = run.innermost()
    if len(course.work) == 0:
        leave_course(run, 0)
        return
    part = course.work.pop()
    try:
        DOERS[part[0]](run, part)
    except Fault as fault:
        take_fault(run, fault)
    except Dry:
        run.over = ("dry",)


def run_plain(program, inputs, limit):
    """Run a program by its tree: a tuple of the row and the ending."""
    scopes_of(program)
    if not are_inputs(inputs, len(program[1])) or not is_limit(limit):
        raise BadCount("the inputs or the limit can't be")
    run = PlainRun(program, inputs, limit)
    while run.over is None:
        go_on(run)
    return (run.handed, run.over)

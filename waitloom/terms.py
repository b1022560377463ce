"""Terms: each becomes rows and states that bring its value to the middle slot of a level.

Levels above are free for what a term evaluates on the way. A program is at most 20 deep, so the walk may call
itself.
"""


def emit_number(emitter, term, level):
    emitter.emit(("number", emitter.middle(level), term[1]))


def emit_name(emitter, term, level):
    emitter.emit(("read", emitter.middle(level), emitter.place(term[1])))


def emit_two(emitter, term, level):
    first = emit_term(emitter, term[2], level)
    second = emit_term(emitter, term[3], level + 1)
    emitter.emit(("two", first, term[1], first, second))


def emit_function(emitter, term, level):
    emitter.emit(("make", emitter.middle(level), emitter.inner_machine()))


def emit_call(emitter, term, level):
    function = emit_term(emitter, term[1], level)
    slots = [emit_term(emitter, one, level + 1 + k) for k, one in enumerate(term[2])]
    behind = emitter.reserve()
    emitter.close(("call", function, function, tuple(slots), behind))
    emitter.begin(behind)


def emit_step(emitter, term, level):
    waiting = emit_term(emitter, term[1], level)
    behind = emitter.reserve()
    ended = emitter.reserve()
    emitter.close(("step", waiting, waiting, behind, ended))
    emitter.begin(ended)
    emit_term(emitter, term[2], level)
    emitter.close(("go", behind))
    emitter.begin(behind)


TERMS = {
    "number": emit_number,
    "name": emit_name,
    "two": emit_two,
    "fun": emit_function,
    "loop": emit_function,
    "call": emit_call,
    "step": emit_step,
}


def emit_term(emitter, term, level):
    """Write what evaluates a term; the slot to which its value goes."""
    TERMS[term[0]](emitter, term, level)
    return emitter.middle(level)

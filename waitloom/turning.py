"""Turning: a program becomes a code, one machine for each function."""

from waitloom.emitting import Emitter, place_in
from waitloom.scopes import functions_of, scopes_of
from waitloom.terms import emit_term


def emit_give(emitter, statement):
    slot = emit_term(emitter, statement[2], 0)
    emitter.emit(("write", emitter.place(statement[1]), slot))


def emit_do(emitter, statement):
    emit_term(emitter, statement[1], 0)


def emit_if(emitter, statement):
    slot = emit_term(emitter, statement[1], 0)
    first = emitter.reserve()
    second = emitter.reserve()
    behind = emitter.reserve()
    emitter.close(("if", slot, first, second))
    emit_branch(emitter, first, statement[2], behind)
    emit_branch(emitter, second, statement[3], behind)
    emitter.begin(behind)


def emit_while(emitter, statement):
    again = emitter.reserve()
    test = emitter.reserve()
    within = emitter.reserve()
    behind = emitter.reserve()
    emitter.close(("go", again))
    emitter.begin(again)
    emitter.close(("while", test))
    emitter.begin(test)
    slot = emit_term(emitter, statement[1], 0)
    emitter.close(("if", slot, within, behind))
    emit_branch(emitter, within, statement[2], again)
    emitter.begin(behind)


def emit_hand(emitter, statement):
    slot = emit_term(emitter, statement[1], 0)
    behind = emitter.reserve()
    emitter.close(("hand", slot, behind))
    emitter.begin(behind)


def emit_back(emitter, statement):
    slot = emit_term(emitter, statement[1], 0)
    emitter.close(("back", slot))
    # No way leads there, but what stands behind still has its functions.
    emitter.begin(emitter.reserve())


def emit_fault(emitter, statement):
    slot = emit_term(emitter, statement[2], 0)
    emitter.close(("fault", statement[1], slot))
    emitter.begin(emitter.reserve())


def emit_try(emitter, statement):
    first = emitter.reserve()
    second = emitter.reserve()
    third = emitter.reserve()
    behind = emitter.reserve()
    emitter.close(("go", first))
    round_it = emitter.catches
    emitter.catches = ((statement[2], emitter.place(statement[3]), second),) + round_it
    emit_branch(emitter, first, statement[1], third)
    emitter.catches = round_it
    emit_branch(emitter, second, statement[4], behind)
    emit_branch(emitter, third, statement[5], behind)
    emitter.begin(behind)


STATEMENTS = {
    "let": emit_give,
    "set": emit_give,
    "do": emit_do,
    "if": emit_if,
    "while": emit_while,
    "hand": emit_hand,
    "back": emit_back,
    "fault": emit_fault,
    "try": emit_try,
}


def emit_body(emitter, body):
    """Write what does a body, on from the state that is being written."""
    for statement in body:
        STATEMENTS[statement[0]](emitter, statement)


def emit_branch(emitter, state, body, behind):
    """Write what does a body, from a state on, and then goes to the one behind."""
    emitter.begin(state)
    emit_body(emitter, body)
    emitter.close(("go", behind))


def machine_of(functions, scopes, number):
    """The machine of a function."""
    function = functions[number]
    scope = scopes[number]
    outer = function[3]
    inner_machines = [k for k, other in enumerate(functions) if other[3] == number]
    emitter = Emitter(scope, inner_machines)
    emit_body(emitter, function[2])
    emitter.close(("back", None))
    taken = tuple([place_in(scopes[outer], name) for name in scope[3]])
    params = len(function[1])
    return (function[0], outer, params, emitter.names, emitter.slots, scope[2], taken, tuple(emitter.states))


def turned(program):
    """The code of a program, a sound one."""
    scopes = scopes_of(program)
    functions = functions_of(program)
    return tuple([machine_of(functions, scopes, number) for number in range(len(functions))])

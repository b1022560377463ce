import random
import unittest

from samples import Weaver, all_runs, nested, odd_things, sound_by_sets
from waitloom.looking import is_sound
from waitloom.reading import read
from waitloom.turning import turned

BACK = ((), ("back", None), ())

# A code with each row, each end, and places and catches of each kind. A main has middle slots 3 to 7, the fun 3 to 5
# and the loop 1 to 3.
MAIN_STATES = (
    ((("number", 3, -5), ("read", 4, ("slot", 0)), ("read", 5, ("box", 1)), ("two", 6, "+", 3, 4), ("write", ("slot", 2), 6),
      ("write", ("box", 1), 5), ("make", 7, 1)), ("go", 1), ()),
    ((), ("while", 2), ()),
    ((), ("if", 3, 3, 7), ()),
    ((), ("call", 4, 7, (3, 6), 4), (("oh", ("slot", 0), 7), ("any", ("box", 1), 7))),
    ((), ("step", 5, 4, 5, 6), ()),
    ((), ("hand", 5, 1), ()),
    ((), ("fault", "oh", 6), ()),
    ((), ("back", 3), ()),
)
FUN_STATES = (
    ((("make", 3, 2), ("read", 4, ("taken", 0)), ("two", 4, "<", 4, 4)), ("call", 5, 3, (), 1), ()),
    ((("write", ("taken", 0), 5),), ("back", 5), (("deep", ("taken", 0), 0),)),
)
LOOP_STATES = (
    ((("read", 1, ("taken", 3)), ("read", 2, ("taken", 0)), ("write", ("slot", 0), 2)), ("hand", 2, 1), ()),
    ((), ("back", None), (("any", ("slot", 0), 0), ("any", ("taken", 1), 1))),
)
GOOD = (
    ("main", None, 1, 3, 8, (1,), (), MAIN_STATES),
    ("fun", 0, 2, 3, 6, (0, 2), (("box", 1),), FUN_STATES),
    ("loop", 1, 0, 1, 4, (), (("taken", 0), ("box", 0), ("box", 2), ("box", 2)), LOOP_STATES),
)


def paths(thing):
    """The ways to all things in a tuple of tuples."""
    found = [()]
    if isinstance(thing, tuple):
        for place, one in enumerate(thing):
            found.extend([(place,) + path for path in paths(one)])
    return found


def at(thing, path):
    for place in path:
        thing = thing[place]
    return thing


def changed(thing, path, other):
    """The same with another thing at the end of a way."""
    if path == ():
        return other
    place = path[0]
    return thing[:place] + (changed(thing[place], path[1:], other),) + thing[place + 1:]


def main_code(*states, names=0, slots=10):
    return (("main", None, 0, names, slots, (), (), states),)


class LookingTest(unittest.TestCase):
    def good(self, code):
        self.assertIs(is_sound(code), True, code)

    def bad(self, code):
        self.assertIs(is_sound(code), False)

    def alike(self, code):
        self.assertIs(is_sound(code), sound_by_sets(code))


class FormTest(LookingTest):
    def test_good_ones(self):
        self.good(GOOD)
        self.assertTrue(sound_by_sets(GOOD))
        self.good(main_code(BACK))
        self.good((("main", None, 0, 0, 0, (), (), (BACK,)),))
        self.good((("main", None, 4, 4, 4, (0, 1, 2, 3), (), (BACK,)),))

    def test_anything_may_be_asked(self):
        for thing in odd_things() + [0, 1, "main", (), ((),), [], GOOD[0], list(GOOD), [GOOD[0]], (list(GOOD[0]),), MAIN_STATES]:
            self.bad(thing)
            self.bad((thing,))
            self.bad(GOOD + (thing,))

    def test_each_thing_wrong_in_turn(self):
        others = odd_things() + [0, 1, 2, 3, 5, 8, 1000, 1001, -1, "any", "oh", "+", "fun", "loop", "box", "slot", "taken", ()]
        for path in paths(GOOD):
            for other in others:
                self.alike(changed(GOOD, path, other))

    def test_lists_in_the_place_of_tuples(self):
        for path in paths(GOOD):
            if isinstance(at(GOOD, path), tuple):
                self.bad(changed(GOOD, path, list(at(GOOD, path))))

    def test_truths_in_the_place_of_numbers(self):
        for path in paths(GOOD):
            if isinstance(at(GOOD, path), int):
                self.bad(changed(GOOD, path, True))
                self.bad(changed(GOOD, path, False))
                self.bad(changed(GOOD, path, float(at(GOOD, path))))

    def test_too_long_and_too_short(self):
        for path in paths(GOOD):
            thing = at(GOOD, path)
            if isinstance(thing, tuple):
                for other in (thing[:-1], thing[1:], thing + (None,), thing + (0,), thing + thing[-1:], ()):
                    self.alike(changed(GOOD, path, other))
                if thing and isinstance(thing[0], str):
                    self.bad(changed(GOOD, path, thing[:-1]))
                    self.bad(changed(GOOD, path, thing + (0,)))
        for number, machine in enumerate(GOOD):
            self.bad(changed(GOOD, (number,), machine[:7]))
            self.bad(changed(GOOD, (number,), machine + (0,)))
            for place, state in enumerate(machine[7]):
                self.bad(changed(GOOD, (number, 7, place), state[:2]))
                self.bad(changed(GOOD, (number, 7, place), state + ((),)))

    def test_unknown_words(self):
        for path in paths(GOOD):
            if isinstance(at(GOOD, path), str):
                for word in ("", "goes", "Main", "main ", "number\n", "main", "back", "x1", "any", "ninetyone"):
                    self.alike(changed(GOOD, path, word))

    def test_some_thousands_deep(self):
        for deep in (nested(8000, tuple), nested(8000, list)):
            self.bad(deep)
            for path in paths(GOOD):
                self.bad(changed(GOOD, path, deep))

    def test_nothing_handed_in_is_changed(self):
        states = [list(state) for state in MAIN_STATES]
        wrong = (("main", None, 1, 3, 8, [1], (), states),)
        self.bad(wrong)
        self.assertEqual(wrong, (("main", None, 1, 3, 8, [1], (), [list(state) for state in MAIN_STATES]),))


class MachineFormTest(LookingTest):
    def test_how_many_machines(self):
        def code(length):
            return (("main", None, 0, 0, 0, (), (), (BACK,)),) + (("fun", 0, 0, 0, 0, (), (), (BACK,)),) * (length - 1)
        for length in (1, 2, 299, 300):
            self.good(code(length))
        self.bad(code(301))
        self.bad(())

    def test_kinds(self):
        self.bad((("fun", None, 0, 0, 0, (), (), (BACK,)),))
        self.bad((("loop", None, 0, 0, 0, (), (), (BACK,)),))
        self.bad(changed(GOOD, (1, 0), "main"))
        self.bad(changed(GOOD, (2, 0), "main"))
        self.bad(changed(GOOD, (2, 0), "fun"))
        self.good(changed(GOOD, (1, 0), "loop"))

    def test_rounds(self):
        self.bad(changed(GOOD, (0, 1), 0))
        self.bad(changed(GOOD, (1, 1), None))
        self.bad(changed(GOOD, (1, 1), 1))
        self.bad(changed(GOOD, (1, 1), 2))
        self.bad(changed(GOOD, (1, 1), -1))
        self.bad(changed(GOOD, (2, 1), 3))

    def test_params_names_and_slots(self):
        def code(params, names, slots):
            return (("main", None, params, names, slots, (), (), (BACK,)),)
        for params, names, slots in ((0, 0, 0), (0, 0, 1000), (0, 1000, 1000), (4, 4, 4), (4, 1000, 1000), (1, 2, 3)):
            self.good(code(params, names, slots))
        for params, names, slots in ((5, 5, 5), (-1, 0, 0), (1, 0, 1), (0, 2, 1), (0, 0, 1001), (0, 1001, 1001), (0, -1, 5),
                                     (0, 0, -1), (True, 1, 1), (0, True, 1), (0, 0, True), (0, 0, 1.0), (None, 1, 1)):
            self.bad(code(params, names, slots))

    def test_boxed(self):
        def code(boxed):
            return (("main", None, 1, 4, 4, boxed, (), (BACK,)),)
        for boxed in ((), (0,), (3,), (0, 1, 2, 3), (1, 3)):
            self.good(code(boxed))
        for boxed in ((4,), (-1,), (1, 0), (1, 1), (0, 4), (0, 2, 1), [0], (True,), (0, None), None, 0, "0", ((0,),)):
            self.bad(code(boxed))

    def test_taken(self):
        def code(taken):
            return (("main", None, 0, 3, 3, (0, 2), (), (BACK,)), ("fun", 0, 0, 2, 2, (1,), taken, (BACK,)),
                    ("fun", 1, 0, 0, 0, (), (("taken", 0), ("box", 1)) if len(taken) else (("box", 1),), (BACK,)))
        for taken in ((), (("box", 0),), (("box", 2), ("box", 0)), (("box", 0),) * 5):
            self.good(code(taken))
        for taken in ((("box", 1),), (("box", 3),), (("box", -1),), (("box", True),), (("taken", 0),), (("slot", 1),),
                      (("box", 0), ("taken", 0)), (("box",),), (("box", 0, 0),), ("box", 0), (["box", 0],), (None,), (0,)):
            self.bad(code(taken))
        self.bad((("main", None, 0, 1, 1, (0,), (("box", 0),), (BACK,)),))
        self.bad((("main", None, 0, 1, 1, (0,), (("taken", 0),), (BACK,)),))
        self.good((("main", None, 0, 1, 1, (0,), (), (BACK,)), ("fun", 0, 0, 0, 0, (), (("box", 0),) * 400, (BACK,))))

    def test_taken_of_the_round_alone(self):
        main = ("main", None, 0, 1, 1, (0,), (), (BACK,))
        first = ("fun", 0, 0, 0, 0, (), (("box", 0),), (BACK,))
        self.good((main, first, ("fun", 1, 0, 0, 0, (), (("taken", 0),), (BACK,))))
        self.bad((main, first, ("fun", 1, 0, 0, 0, (), (("taken", 1),), (BACK,))))
        self.bad((main, first, ("fun", 0, 0, 0, 0, (), (("taken", 0),), (BACK,))))
        self.bad((main, first, ("fun", 1, 0, 0, 0, (), (("box", 0),), (BACK,))))

    def test_how_many_states(self):
        for length in (1, 1999, 2000):
            self.good(main_code(*[BACK] * length))
        self.bad(main_code(*[BACK] * 2001))
        self.bad(main_code())

    def test_how_many_rows(self):
        row = ("number", 0, 1)
        for length in (0, 999, 1000):
            self.good(main_code(((row,) * length, ("back", None), ())))
        self.bad(main_code(((row,) * 1001, ("back", None), ())))

    def test_how_many_catches(self):
        catch = ("any", ("slot", 0), 0)
        for length in (0, 19, 20):
            self.good(main_code(((), ("back", None), (catch,) * length), names=1))
        self.bad(main_code(((), ("back", None), (catch,) * 21), names=1))


class StateFormTest(LookingTest):
    def rows(self, *rows):
        return changed(GOOD, (0, 7, 0, 0), MAIN_STATES[0][0] + rows)

    def ends(self, end):
        """Behind all slots are written."""
        return changed(GOOD, (0, 7, 1), ((), end, ()))

    def test_middle_slots(self):
        for slot in (3, 7):
            self.good(self.rows(("number", slot, 1), ("read", slot, ("slot", 0)), ("write", ("slot", 0), slot)))
            self.good(self.rows(("two", slot, "-", slot, slot), ("make", slot, 1)))
        for slot in (-1, 0, 1, 2, 8, 1000, True, None, "3", 3.0, (3,)):
            for row in (("number", slot, 1), ("read", slot, ("slot", 0)), ("write", ("slot", 0), slot), ("two", slot, "+", 3, 3),
                        ("two", 3, "+", slot, 3), ("two", 3, "+", 3, slot), ("make", slot, 1)):
                self.bad(self.rows(row))
            for end in (("if", slot, 2, 2), ("call", slot, 7, (), 2), ("call", 7, slot, (), 2), ("call", 7, 7, (slot,), 2),
                        ("call", 7, 7, (7, 7, 7, slot), 2), ("step", slot, 3, 2, 2), ("step", 3, slot, 2, 2),
                        ("hand", slot, 2), ("fault", "oh", slot)):
                self.bad(self.ends(end))
            if slot is not None:
                self.bad(self.ends(("back", slot)))

    def test_numbers(self):
        for n in (0, 10 ** 12, -(10 ** 12)):
            self.good(self.rows(("number", 3, n)))
        for n in (10 ** 12 + 1, -(10 ** 12) - 1, True, None, "1", 1.0):
            self.bad(self.rows(("number", 3, n)))

    def test_signs(self):
        for sign in "+-*<=":
            self.good(self.rows(("two", 3, sign, 3, 4)))
        for sign in ("", "/", "<=", "+-", "+-*<=", None, 1, ("+",)):
            self.bad(self.rows(("two", 3, sign, 3, 4)))

    def test_places(self):
        for place in (("slot", 0), ("slot", 2), ("box", 1)):
            self.good(self.rows(("read", 3, place), ("write", place, 3)))
            self.good(changed(GOOD, (0, 7, 3, 2), (("any", place, 0),)))
        for place in (("slot", 1), ("slot", 3), ("slot", -1), ("box", 0), ("box", 2), ("box", 3), ("box", -1), ("taken", 0),
                      ("slot", True), ("box", True), ("slot",), ("slot", 0, 0), ["slot", 0], "slot", 0, None, ("place", 0), (0, "slot")):
            self.bad(self.rows(("read", 3, place)))
            self.bad(self.rows(("write", place, 3)))
            self.bad(changed(GOOD, (0, 7, 3, 2), (("any", place, 0),)))
        for number, most in ((1, 1), (2, 4)):
            for j in range(-1, 6):
                code = changed(GOOD, (number, 7, 0, 0, 1, 2), ("taken", j))
                self.assertIs(is_sound(code), 0 <= j < most)

    def test_machines(self):
        self.good(self.rows(("make", 3, 1)))
        for number in (0, 2, 3, -1, True, None, "1"):
            self.bad(self.rows(("make", 3, number)))
        for number in (0, 1, 3, -1, None):
            self.bad(changed(GOOD, (1, 7, 0, 0, 0), ("make", 3, number)))

    def test_states(self):
        for state in (0, 7):
            for end in (("go", state), ("if", 3, state, state), ("while", state), ("call", 3, 7, (), state),
                        ("step", 3, 3, state, state), ("hand", 3, state)):
                self.alike(self.ends(end))
            self.good(self.ends(("hand", 3, state)))
        for state in (-1, 8, 2000, True, None, "1", 1.0, (1,)):
            for end in (("go", state), ("if", 3, state, 1), ("if", 3, 1, state), ("while", state), ("call", 3, 7, (), state),
                        ("step", 3, 3, state, 1), ("step", 3, 3, 1, state), ("hand", 3, state)):
                self.bad(self.ends(end))
            self.bad(changed(GOOD, (0, 7, 3, 2), (("any", ("slot", 0), state),)))

    def test_args(self):
        for length in range(5):
            self.good(self.ends(("call", 3, 7, (3,) * length, 1)))
        for thing in ((3,) * 5, [3], 3, None, "", ((3,),)):
            self.bad(self.ends(("call", 3, 7, thing, 1)))

    def test_hands(self):
        hand = ((("number", 3, 1),), ("hand", 3, 0), ())
        self.good(main_code(hand))
        self.bad(changed(GOOD, (1, 7), (hand,)))
        self.good(changed(GOOD, (2, 7), (hand,)))
        # It is asked for its form even where no way leads.
        self.bad(changed(GOOD, (1, 7), FUN_STATES + (hand,)))

    def test_backs(self):
        self.good(self.ends(("back", None)))
        self.good(self.ends(("back", 3)))
        for end in (("back",), ("back", None, None), ("back", False), ("back", "3"), ("back", 0), ("back", ())):
            self.bad(self.ends(end))

    def test_words(self):
        for word in ("oh", "unset", "a", "abcdefgh"):
            self.good(self.ends(("fault", word, 3)))
            self.good(changed(GOOD, (0, 7, 3, 2), ((word, ("slot", 0), 0),)))
        self.bad(self.ends(("fault", "any", 3)))
        self.good(changed(GOOD, (0, 7, 3, 2), (("any", ("slot", 0), 0),)))
        for word in ("", "A", "x1", "ninetyone", None, 1, ("oh",), True):
            self.bad(self.ends(("fault", word, 3)))
            self.bad(changed(GOOD, (0, 7, 3, 2), ((word, ("slot", 0), 0),)))

    def test_states_to_which_no_way_leads(self):
        for wrong in (((("number", 0, 1),), ("back", None), ()), ((), ("go", 9), ()), ((), ("jump", 0), ()), None, (),
                      ((), ("back", None), (("any", ("slot", 0), 9),))):
            self.bad(changed(GOOD, (0, 7), MAIN_STATES + (wrong,)))


class WaysTest(LookingTest):
    def one(self, slot):
        return ("number", slot, 1)

    def test_a_slot_that_nothing_wrote(self):
        for row in (("two", 1, "+", 0, 1), ("two", 1, "+", 1, 0), ("write", ("slot", 0), 1)):
            self.bad((("main", None, 0, 1, 5, (), (), (((row,), ("back", None), ()),)),))
        for end in (("if", 0, 0, 0), ("call", 1, 0, (), 0), ("call", 0, 1, (0,), 0), ("step", 1, 0, 0, 0), ("step", 0, 0, 0, 0),
                    ("hand", 0, 0), ("back", 0), ("fault", "oh", 0), ("call", 0, 0, (), 0)):
            self.bad(main_code(((self.one(1),), end, ())))
            if end[0] in ("if", "hand", "back", "fault"):
                self.good(main_code(((self.one(0),), end, ())))

    def test_rows_one_by_one(self):
        self.good(main_code(((self.one(0), ("two", 1, "+", 0, 0), ("two", 0, "+", 0, 1)), ("back", 1), ())))
        self.bad(main_code(((("two", 0, "+", 0, 0),), ("back", 0), ())))
        self.bad(main_code(((("two", 1, "+", 0, 0), self.one(0)), ("back", 1), ())))

    def test_written_on_one_way_alone(self):
        fork = ((self.one(0),), ("if", 0, 1, 2), ())
        left = ((self.one(1),), ("go", 3), ())
        right = ((self.one(2),), ("go", 3), ())
        both = ((self.one(1), self.one(2)), ("go", 3), ())
        join = lambda slot: ((), ("back", slot), ())
        self.bad(main_code(fork, left, right, join(1)))
        self.bad(main_code(fork, left, right, join(2)))
        self.good(main_code(fork, left, right, join(0)))
        self.good(main_code(fork, left, both, join(1)))
        self.bad(main_code(fork, left, both, join(2)))
        self.good(main_code(fork, both, both, join(2)))

    def test_loops_of_states(self):
        begin = ((self.one(0),), ("go", 1), ())
        self.good(main_code(begin, ((), ("while", 2), ()), ((), ("if", 0, 1, 3), ()), BACK))
        # The first time round slot 1 isn't written.
        again = ((("two", 2, "+", 0, 1), self.one(1)), ("go", 1), ())
        self.bad(main_code(begin, again))
        self.good(main_code(((self.one(0), self.one(1)), ("go", 1), ()), again))
        # State 0 is where a way begins with nothing written, also if others lead back to it.
        self.bad(main_code(((("two", 1, "+", 0, 0),), ("go", 1), ()), ((self.one(0),), ("go", 0), ())))

    def test_calls(self):
        self.good(main_code(((self.one(0),), ("call", 1, 0, (), 1), ()), ((), ("back", 1), ())))
        self.bad(main_code(((self.one(0),), ("call", 1, 0, (), 1), ()), ((), ("back", 2), ())))

    def test_steps(self):
        begin = ((self.one(0),), ("step", 1, 0, 1, 2), ())
        self.good(main_code(begin, ((), ("back", 1), ()), ((), ("back", 0), ())))
        self.bad(main_code(begin, ((), ("back", 0), ()), ((), ("back", 1), ())))
        # Both ways lead to one state.
        same = ((self.one(0),), ("step", 1, 0, 1, 1), ())
        self.bad(main_code(same, ((), ("back", 1), ())))
        self.good(main_code(same, ((), ("back", 0), ())))
        self.good(main_code(((self.one(0),), ("step", 0, 0, 1, 1), ()), ((), ("back", 0), ())))

    def test_catches(self):
        def code(ahead, within, target):
            return (("main", None, 0, 1, 6, (), (), (
                (tuple([self.one(slot) for slot in ahead]), ("go", 1), ()),
                (tuple([self.one(slot) for slot in within]), ("call", 5, within[0], (), 2), (("any", ("slot", 0), 3),)),
                BACK, ((), ("back", target), ()))),)
        self.good(code((1,), (2,), 1))
        self.bad(code((1,), (2,), 2))
        self.bad(code((1,), (2,), 5))
        self.bad(code((), (2,), 1))
        self.good(code((1, 2), (2,), 2))

    def test_catches_with_taken_places(self):
        def code(rows):
            fun = ("fun", 0, 0, 0, 2, (), (("box", 0),), (
                (rows, ("go", 1), ()), ((self.one(0),), ("go", 2), (("any", ("taken", 0), 2),)), ((), ("back", 0), ())))
            return (("main", None, 0, 1, 1, (0,), (), (BACK,)), fun)
        self.bad(code(()))
        self.bad(code((self.one(1),)))
        self.good(code((self.one(0),)))

    def test_a_catch_of_a_state_that_ends_the_run(self):
        for end in (("back", None), ("back", 1), ("fault", "oh", 1)):
            code = (("main", None, 0, 1, 3, (), (), (
                ((self.one(1),), end, (("oh", ("slot", 0), 1),)), ((), ("back", 1), ()))),)
            self.bad(code)
            self.good(changed(code, (0, 7, 1, 1), ("back", None)))

    def test_a_catch_that_leads_back_to_its_own_state(self):
        catch = (("any", ("slot", 0), 1),)
        code = (("main", None, 0, 1, 4, (), (), (
            ((self.one(1), self.one(2)), ("go", 1), ()), ((("two", 3, "+", 1, 2),), ("go", 1), catch))),)
        self.good(code)
        self.bad(changed(code, (0, 7, 0, 0), (self.one(1),)))

    def test_each_machine_by_itself(self):
        bad_states = (((), ("back", 3), ()),)
        for number in (0, 1, 2):
            self.bad(changed(GOOD, (number, 7), bad_states))

    def test_states_to_which_no_way_leads(self):
        self.good(main_code(BACK, ((), ("back", 5), ()), ((("two", 1, "+", 2, 3),), ("go", 0), ())))
        self.good(main_code(BACK, ((), ("go", 2), ()), ((), ("back", 3), ())))
        # What lies behind them is not led to either, and writes nothing less on a way that is.
        self.good(main_code(((self.one(0),), ("go", 2), ()), ((), ("go", 2), ()), ((), ("back", 0), ())))

    def test_many_states_one_behind_another(self):
        states = [((self.one(0),), ("go", 1), ())] + [((), ("go", k + 1), ()) for k in range(1, 1999)]
        self.good(main_code(*states, ((), ("back", 0), ())))
        self.bad(main_code(*states, ((), ("back", 1), ())))
        backwards = [((self.one(0),), ("go", 1999), ()), ((), ("back", 0), ())] + [((), ("go", k - 1), ()) for k in range(2, 2000)]
        self.good(main_code(*backwards))
        self.bad(main_code(*backwards[:1], ((), ("back", 1), ()), *backwards[2:]))

    def test_all_slots(self):
        rows = tuple([self.one(slot) for slot in range(1000)])
        self.good(main_code((rows, ("go", 1), ()), ((), ("back", 999), ()), slots=1000))
        self.bad(main_code((rows[:-1], ("go", 1), ()), ((), ("back", 999), ()), slots=1000))


class WholeTest(LookingTest):
    def test_what_turned_tells(self):
        for text, limit, row, ending in all_runs():
            self.good(turned(read(text)))
        for seed in range(200):
            self.good(turned(Weaver(seed).program()))

    def test_chance_changes(self):
        """Codes of programs with a thing changed here and there are sound or not as the slow check tells."""
        dice = random.Random(31)
        told = []
        codes = [turned(read(text)) for text, limit, row, ending in all_runs()] + [GOOD] * 40
        for k in range(3000):
            code = dice.choice(codes)
            for times in range(dice.choice((1, 1, 1, 2))):
                ways = paths(code)
                path = dice.choice(ways)
                thing = at(code, path)
                if isinstance(thing, int) and dice.randrange(4):
                    other = thing + dice.choice((-2, -1, 1, 2))
                elif isinstance(thing, tuple) and thing and dice.randrange(4):
                    place = dice.randrange(len(thing))
                    other = dice.choice((thing[:place] + thing[place + 1:], thing[:place] + thing[place:place + 1] + thing[place:]))
                else:
                    other = at(code, dice.choice(ways))
                code = changed(code, path, other)
            told.append(sound_by_sets(code))
            self.assertIs(is_sound(code), told[-1])
        self.assertTrue(200 < sum(told) < 2800, sum(told))

    def test_chance_states(self):
        """States and slots by chance, so that many ways meet."""
        dice = random.Random(32)
        told = []
        for k in range(2000):
            length = dice.randrange(1, 7)
            states = []
            for number in range(length):
                rows = tuple([("number", 1 + dice.randrange(3), 0) for one in range(dice.randrange(3))])
                target = lambda: dice.randrange(length)
                slot = 1 + dice.randrange(3)
                end = dice.choice((("go", target()), ("if", slot, target(), target()), ("back", slot), ("back", None),
                                   ("step", 1 + dice.randrange(3), slot, target(), target()),
                                   ("call", 1 + dice.randrange(3), slot, (), target()), ("while", target())))
                catches = tuple([("any", ("slot", 0), target()) for one in range(dice.choice((0, 0, 1)))])
                states.append((rows, end, catches))
            code = (("main", None, 0, 1, 4, (), (), tuple(states)),)
            told.append(sound_by_sets(code))
            self.assertIs(is_sound(code), told[-1])
        self.assertTrue(200 < sum(told) < 1800, sum(told))


if __name__ == "__main__":
    unittest.main()

import copy
import unittest

from samples import DRY, END, RUNS, Weaver, all_runs, fault, nested, odd_things, reference
from waitloom.errors import BadCode, BadCount
from waitloom.heap import Heap
from waitloom.machine import Machine, run_code
from waitloom.plain import run_plain
from waitloom.reading import read
from waitloom.turning import turned

GREAT = 10 ** 12
BACK = ((), ("back", None), ())
ROOMS = (0, 1, 2, 7, 30, 1000)


def number(n):
    return ("number", n)


def thing(k):
    return ("thing", k)


def one_machine(*states, names=0, slots=10, boxed=(), params=0):
    return (("main", None, params, names, slots, boxed, (), states),)


class MachineTest(unittest.TestCase):
    def same_roots(self, machine, *values):
        self.assertIsInstance(machine.roots(), list)
        self.assertEqual(sorted(machine.roots()), sorted(values))

    def stands(self, machine, row, ending=None):
        self.assertEqual(machine.row(), row)
        self.assertEqual(machine.ending(), ending)
        self.assertIs(machine.is_over(), ending is not None)

    def things(self, machine):
        return {k: machine.heap.thing(k) for k in machine.heap.numbers()}

    def goes(self, machine, times):
        for k in range(times):
            self.assertIsNone(machine.go())

    def ends(self, code, inputs, limit, row, ending):
        for room in ROOMS:
            self.assertEqual(run_code(code, inputs, limit, room), (row, ending), code)


class StatesTest(MachineTest):
    """Codes written by hand, gone state by state."""

    def test_rows(self):
        code = one_machine(
            ((("number", 3, 6), ("read", 4, ("slot", 0)), ("two", 5, "-", 4, 3), ("write", ("slot", 2), 5)), ("go", 1), ()),
            ((("read", 4, ("box", 1)), ("write", ("box", 1), 5), ("read", 3, ("box", 1))), ("go", 2), ()), BACK,
            params=2, names=3, slots=6, boxed=(1,))
        machine = Machine(code, [4, 9], 0, 1000)
        self.assertIsInstance(machine.heap, Heap)
        box = machine.heap.numbers()[0]
        self.assertEqual(self.things(machine), {box: ("box", number(9))})
        self.stands(machine, [])
        # The slot of a boxed name has nothing, and so have those that nothing was written to.
        self.same_roots(machine, number(4), thing(box))
        self.goes(machine, 1)
        self.same_roots(machine, number(4), number(-2), number(6), number(4), number(-2), thing(box))
        self.goes(machine, 1)
        self.same_roots(machine, number(4), number(-2), number(-2), number(9), number(-2), thing(box))
        self.assertEqual(self.things(machine), {box: ("box", number(-2))})
        self.goes(machine, 1)
        self.stands(machine, [], END)
        self.same_roots(machine)
        self.assertEqual(machine.gone(), 0)

    def test_make_and_call(self):
        code = (
            ("main", None, 2, 3, 5, (1,), (), (
                ((("make", 3, 1), ("write", ("slot", 2), 3), ("read", 4, ("box", 1))), ("call", 4, 3, (4,), 1), ()),
                ((), ("back", 4), ()))),
            ("fun", 0, 1, 2, 4, (0, 1), (("box", 1),), (
                ((("read", 2, ("box", 0)), ("read", 3, ("taken", 0)), ("two", 2, "+", 2, 3), ("write", ("taken", 0), 2)),
                 ("go", 1), ()),
                ((), ("back", 2), ()))),
        )
        machine = Machine(code, [7, 5], 1, 1000)
        box = machine.heap.numbers()[0]
        self.goes(machine, 1)
        found = self.things(machine)
        fun = [k for k in found if found[k][0] == "fun"][0]
        self.assertEqual(found[fun], ("fun", 1, (box,)))
        inner_boxes = [k for k in found if k not in (fun, box)]
        self.assertEqual(sorted([found[k] for k in inner_boxes], key=repr), [("box", number(5)), ("box", None)])
        self.same_roots(machine, number(7), thing(fun), thing(fun), number(5), thing(box), thing(box),
                        *[thing(k) for k in inner_boxes])
        self.goes(machine, 1)
        self.assertEqual(machine.heap.thing(box), ("box", number(10)))
        self.same_roots(machine, number(7), thing(fun), thing(fun), number(5), thing(box), thing(box), number(10), number(5),
                        *[thing(k) for k in inner_boxes])
        self.goes(machine, 1)
        # The frame is gone, its boxes are still there, and nothing reaches them.
        self.same_roots(machine, number(7), thing(fun), thing(fun), number(10), thing(box))
        self.assertEqual(len(self.things(machine)), 4)
        self.goes(machine, 1)
        self.stands(machine, [], END)
        self.assertEqual(machine.gone(), 0)
        self.assertEqual(len(self.things(machine)), 4)

    def loop_code(self, *loop_states):
        """A program that makes a waiting loop of one boxed and one unboxed parameter, and steps it again and again."""
        return (
            ("main", None, 0, 1, 6, (0,), (), (
                ((("number", 1, 8), ("number", 2, 9), ("write", ("box", 0), 1), ("make", 3, 1)), ("call", 4, 3, (1, 2), 1), ()),
                ((), ("step", 5, 4, 2, 3), (("oh", ("box", 0), 1),)),
                ((), ("hand", 5, 1), ()),
                ((), ("hand", 4, 4), ()), BACK)),
            ("loop", 0, 2, 3, 5, (0,), (("box", 0), ("box", 0)), loop_states),
        )

    def test_a_waiting_loop(self):
        code = self.loop_code(
            ((("read", 3, ("box", 0)), ("write", ("slot", 2), 3)), ("hand", 3, 1), ()),
            ((("read", 4, ("slot", 1)),), ("go", 2), ()),
            ((), ("hand", 4, 3), ()),
            ((), ("back", None), ()))
        machine = Machine(code, [], 3, 1000)
        box = machine.heap.numbers()[0]
        self.goes(machine, 1)
        found = self.things(machine)
        loop = [k for k in found if found[k][0] == "loop"][0]
        waiting = [k for k in found if found[k][0] == "waiting"][0]
        inner_box = [k for k in found if found[k][0] == "box" and k != box][0]
        self.assertEqual(found, {
            box: ("box", number(8)), loop: ("loop", 1, (box, box)), inner_box: ("box", number(8)),
            waiting: ("waiting", 1, 0, (None, number(9), None, None, None), (inner_box,), (box, box)),
        })
        main_roots = [number(8), number(9), thing(loop), thing(waiting), thing(box)]
        self.same_roots(machine, *main_roots)
        self.goes(machine, 1)
        self.assertEqual(machine.heap.thing(waiting), ("waiting", 1, "open", (), (), (box, box)))
        loop_roots = [thing(inner_box), thing(box), thing(box), thing(waiting)]
        self.same_roots(machine, *main_roots, *loop_roots, number(9))
        self.goes(machine, 1)
        self.assertEqual(machine.heap.thing(waiting),
                         ("waiting", 1, 1, (None, number(9), number(8), number(8), None), (inner_box,), (box, box)))
        self.same_roots(machine, *main_roots, number(8))
        self.stands(machine, [])
        self.goes(machine, 2)
        self.stands(machine, [8])
        self.same_roots(machine, *main_roots, *loop_roots, number(8), number(9), number(8), number(8))
        self.goes(machine, 1)
        self.same_roots(machine, *main_roots, *loop_roots, number(8), number(9), number(8), number(8), number(9))
        self.goes(machine, 1)
        self.assertEqual(machine.heap.thing(waiting)[2:4], (3, (None, number(9), number(8), number(8), number(9))))
        self.goes(machine, 3)
        self.stands(machine, [8, 9])
        self.assertEqual(machine.heap.thing(waiting), ("waiting", 1, "ended", (), (), ()))
        self.same_roots(machine, *main_roots, number(9))
        self.goes(machine, 1)
        self.stands(machine, [8, 9, "waiting"])
        self.goes(machine, 1)
        self.stands(machine, [8, 9, "waiting"], END)
        self.ends(code, [], 3, [8, 9, "waiting"], END)
        self.ends(code, [], 2, [8, 9], DRY)
        self.ends(code, [], 0, [], DRY)

    def test_a_loop_that_ends_by_back(self):
        code = self.loop_code(((("number", 3, 4),), ("hand", 3, 1), ()), ((), ("back", 3), ()))
        self.ends(code, [], 9, [4, "waiting"], END)

    def test_a_fault_out_of_a_loop(self):
        code = self.loop_code(((("number", 3, 4),), ("fault", "oh", 3), ()))
        machine = Machine(code, [], 9, 1000)
        self.goes(machine, 2)
        waiting = [k for k in machine.heap.numbers() if machine.heap.thing(k)[0] == "waiting"][0]
        self.assertEqual(machine.heap.thing(waiting)[2], "open")
        self.goes(machine, 1)
        self.assertEqual(machine.heap.thing(waiting), ("waiting", 1, "ended", (), (), ()))
        self.assertEqual(machine.heap.thing(machine.heap.numbers()[0]), ("box", number(4)))
        self.goes(machine, 1)
        self.stands(machine, [])
        self.goes(machine, 2)
        self.stands(machine, ["waiting"], END)
        other = self.loop_code(((("number", 3, 4),), ("fault", "ah", 3), ()))
        self.ends(other, [], 9, [], fault("ah", 4))

    def test_if_and_while(self):
        code = one_machine(
            ((("read", 1, ("slot", 0)),), ("go", 1), ()), ((), ("while", 2), ()), ((), ("if", 1, 3, 4), ()),
            ((("number", 2, 1), ("two", 1, "-", 1, 2)), ("hand", 1, 1), ()), ((), ("back", 1), ()), params=1, names=1, slots=3)
        self.ends(code, [3], 4, [2, 1, 0], END)
        self.ends(code, [3], 3, [2, 1, 0], DRY)
        self.ends(code, [-1], 2, [-2, -3], DRY)
        self.ends(code, [0], 1, [], END)
        self.ends(code, [0], 0, [], DRY)

    def test_faults_of_rows_and_ends(self):
        one = ("number", 2, 1)
        fun = ("make", 4, 1)
        wrong = [
            ((("read", 2, ("slot", 0)),), ("back", None), "unset"), ((("read", 2, ("box", 1)),), ("back", None), "unset"),
            ((one, ("number", 3, GREAT), ("two", 4, "+", 2, 3)), ("back", None), "great"),
            ((fun, one, ("two", 4, "+", 2, 4)), ("back", None), "kind"), ((fun, one, ("two", 4, "<", 4, 2)), ("back", None), "kind"),
            ((fun,), ("if", 4, 0, 0), "kind"), ((one,), ("call", 4, 2, (), 0), "kind"), ((fun,), ("call", 4, 4, (), 0), "count"),
            ((fun,), ("call", 4, 4, (4, 4), 0), "count"), ((one,), ("step", 4, 2, 0, 0), "kind"),
            ((fun,), ("step", 4, 4, 0, 0), "kind"), ((fun,), ("fault", "oh", 4), "kind"),
        ]
        for rows, end, word in wrong:
            inner_machine = ("fun", 0, 1, 1, 1, (), (), (BACK,))
            code = (("main", None, 0, 2, 6, (1,), (), ((rows, end, ()),)), inner_machine)
            self.ends(code, [], 0, [], fault(word))
            caught = ((("read", 2, ("slot", 0)),), ("hand", 2, 2), ())
            for catcher in (word, "any"):
                catches = (("other", ("slot", 0), 2), (catcher, ("slot", 0), 1), ("any", ("slot", 0), 2))
                code = (("main", None, 0, 2, 6, (1,), (), ((rows, end, catches), caught, BACK)), inner_machine)
                self.ends(code, [], 0, [0], END)

    def test_a_fault_leaves_what_was_done_ahead(self):
        catches = (("any", ("box", 1), 1),)
        code = one_machine(
            ((("number", 2, 5), ("write", ("slot", 0), 2), ("number", 2, 6), ("write", ("slot", 0), 2)), ("fault", "oh", 2), catches),
            ((("read", 2, ("slot", 0)),), ("hand", 2, 2), ()), ((("read", 2, ("box", 1)),), ("hand", 2, 3), ()), BACK,
            names=2, slots=3, boxed=(1,))
        self.ends(code, [], 0, [6, 6], END)

    def test_the_first_catch_that_fits(self):
        hands = [((("number", 1, n),), ("hand", 1, 4), ()) for n in (10, 20, 30)]
        for words, expected in ((("oh", "oh", "any"), 10), (("ah", "oh", "any"), 20), (("ah", "any", "oh"), 20),
                                (("ah", "kind", "any"), 30), (("any", "oh", "oh"), 10)):
            catches = tuple([(word, ("slot", 0), k + 1) for k, word in enumerate(words)])
            code = one_machine(((("number", 1, 3),), ("fault", "oh", 1), catches), *hands, BACK, names=1, slots=2)
            self.ends(code, [], 0, [expected], END)

    def test_a_fault_caught_in_a_caller(self):
        def code(catches, inner_catches):
            return (
                ("main", None, 0, 1, 3, (), (), (
                    ((("make", 1, 1),), ("go", 1), ()), ((), ("call", 2, 1, (), 2), catches), ((), ("hand", 2, 3), ()), BACK)),
                ("fun", 0, 0, 1, 3, (), (), (
                    ((("make", 1, 2),), ("call", 2, 1, (), 1), inner_catches), ((("number", 2, 77),), ("back", 2), ()))),
                ("fun", 1, 0, 0, 1, (), (), (((("number", 0, 5),), ("fault", "oh", 0), ()),)),
            )
        machine = Machine(code((), ()), [], 9, 0)
        self.goes(machine, 3)
        self.stands(machine, [])
        self.goes(machine, 1)
        self.stands(machine, [], fault("oh", 5))
        self.same_roots(machine)
        self.assertEqual(machine.heap.numbers(), [])
        catch = (("oh", ("slot", 0), 3),)
        machine = Machine(code(catch, ()), [], 9, 0)
        self.goes(machine, 4)
        fun = machine.heap.numbers()[0]
        # The catcher's place has the number, and the frames between are gone.
        self.same_roots(machine, number(5), thing(fun))
        self.goes(machine, 1)
        self.stands(machine, [], END)
        machine = Machine(code((), (("any", ("slot", 0), 1),)), [], 9, 1000)
        self.goes(machine, 5)
        self.stands(machine, [])
        self.goes(machine, 2)
        self.stands(machine, [77], END)

    def test_nothing_where_it_is_over(self):
        for code, ending in ((one_machine(BACK), END), (one_machine(((("number", 0, 1),), ("fault", "oh", 0), ())), fault("oh", 1)),
                             (one_machine(((), ("while", 0), ())), DRY)):
            machine = Machine(code, [], 0, 5)
            self.stands(machine, [])
            for k in range(3):
                self.assertIsNone(machine.go())
                self.stands(machine, [], ending)
                self.same_roots(machine)
                self.assertEqual(machine.gone(), 0)

    def test_hands_of_a_program(self):
        code = (
            ("main", None, 0, 0, 4, (), (), (
                ((("number", 0, -7),), ("hand", 0, 1), ()), ((("make", 1, 1),), ("hand", 1, 2), ()),
                ((("make", 2, 2),), ("hand", 2, 3), ()), ((), ("call", 3, 2, (), 4), ()), ((), ("hand", 3, 5), ()), BACK)),
            ("fun", 0, 0, 0, 0, (), (), (BACK,)), ("loop", 0, 0, 0, 0, (), (), (BACK,)),
        )
        machine = Machine(code, [], 0, 0)
        for rows in ([-7], [-7, "fun"], [-7, "fun", "loop"], [-7, "fun", "loop"], [-7, "fun", "loop", "waiting"]):
            self.goes(machine, 1)
            self.stands(machine, rows)
        self.goes(machine, 1)
        self.stands(machine, [-7, "fun", "loop", "waiting"], END)

    def test_a_fun_at_its_end_tells_nought(self):
        code = (
            ("main", None, 0, 0, 2, (), (), (((("make", 0, 1),), ("call", 1, 0, (), 1), ()), ((), ("hand", 1, 2), ()), BACK)),
            ("fun", 0, 0, 0, 0, (), (), (BACK,)),
        )
        self.ends(code, [], 1, [0], END)
        self.ends(code, [], 0, [], DRY)

    def test_chains_of_states(self):
        states = [((("number", 0, k),), ("go", k + 1), ()) for k in range(1998)] + [((), ("hand", 0, 1999), ()), BACK]
        self.ends(one_machine(*states), [], 0, [1997], END)


class RoomTest(MachineTest):
    def watched(self, code, inputs, limit, room):
        """Go through a run, and look at the heap behind each state."""
        machine = Machine(code, inputs, limit, room)
        heap = machine.heap
        rows = []
        gone = 0
        while not machine.is_over():
            before = {k: heap.thing(k) for k in heap.numbers()}
            machine.go()
            self.assertIs(machine.heap, heap)
            left = heap.numbers()
            reached = heap.reached(machine.roots())
            self.assertTrue(set(reached) <= set(left))
            new = [k for k in left if k not in before]
            self.assertTrue(not new or not before or min(new) > max(before))
            if machine.gone() > gone or len(left) > room:
                self.assertEqual(left, reached)
            self.assertGreaterEqual(machine.gone(), gone + len([k for k in before if k not in left]))
            gone = machine.gone()
            self.assertEqual(machine.row()[:len(rows)], rows)
            rows = machine.row()
            self.well_formed(code, heap, machine)
        self.assertEqual(machine.roots(), [])
        self.assertTrue(len(heap.numbers()) == 0 or len(heap.numbers()) <= room)
        return (machine.row(), machine.ending()), machine

    def well_formed(self, code, heap, machine):
        """Things name boxes where boxes are to be, and waiting loops have what their machines want."""
        kinds = {k: heap.thing(k)[0] for k in heap.numbers()}
        for k in heap.numbers():
            told = heap.thing(k)
            if told[0] in ("fun", "loop"):
                self.assertEqual(code[told[1]][0], told[0])
                self.assertEqual(len(told[2]), len(code[told[1]][6]))
                self.assertEqual([kinds[one] for one in told[2]], ["box"] * len(told[2]))
            elif told[0] == "waiting" and told[2] == "ended":
                self.assertEqual(told[3:], ((), (), ()))
            elif told[0] == "waiting":
                inner = code[told[1]]
                self.assertEqual(inner[0], "loop")
                self.assertEqual(len(told[5]), len(inner[6]))
                waits = told[2] != "open"
                self.assertEqual(len(told[3]), inner[4] if waits else 0)
                self.assertEqual(len(told[4]), len(inner[5]) if waits else 0)
                self.assertEqual([kinds[one] for one in told[4] + told[5]], ["box"] * (len(told[4]) + len(told[5])))
                if not waits and not machine.is_over():
                    self.assertIn(thing(k), machine.roots())
                if waits:
                    self.assertTrue(0 <= told[2] < len(inner[7]))

    def test_samples(self):
        for text, limit, row, ending in all_runs():
            code = turned(read(text))
            for room in (0, 3, 1000):
                self.assertEqual(self.watched(code, [], min(limit, 200), room)[0], run_plain(read(text), [], min(limit, 200)))

    def test_woven_programs(self):
        for seed in range(150):
            weaver = Weaver(seed)
            tree = weaver.program()
            inputs = [weaver.dice.choice((0, 1, 2, 5)) for name in tree[1]]
            told = [self.watched(turned(tree), inputs, 40, room)[0] for room in (0, 1, 5, 1000)]
            self.assertEqual(told, [run_plain(tree, inputs, 40)] * 4)

    def test_no_room(self):
        text = ("(main () (let k 0) (let f (fun (n) (back (fun () (back n))))) (while (< k 20) ((do (call (call f k))) "
                "(set k (+ k 1)))))")
        told, machine = self.watched(turned(read(text)), [], 1000, 0)
        self.assertEqual(told, ([], END))
        self.assertEqual(machine.heap.numbers(), [])
        # Twenty inner funs and their boxes, and the outer one.
        self.assertEqual(machine.gone(), 41)

    def test_room_for_all(self):
        text = ("(main () (let k 0) (let f (fun (n) (back (fun () (back n))))) (while (< k 20) ((do (call (call f k))) "
                "(set k (+ k 1)))))")
        told, machine = self.watched(turned(read(text)), [], 1000, 41)
        self.assertEqual((machine.gone(), len(machine.heap.numbers())), (0, 41))
        told, machine = self.watched(turned(read(text)), [], 1000, 40)
        self.assertGreater(machine.gone(), 0)

    def test_rings_are_collected(self):
        text = ("(main () (let k 0) (let m (fun () (let g 0) (set g (fun () (back g))))) "
                "(while (< k 10) ((do (call m)) (set k (+ k 1)))))")
        told, machine = self.watched(turned(read(text)), [], 1000, 0)
        self.assertEqual((told, machine.gone()), (([], END), 21))

    def test_what_a_waiting_loop_keeps(self):
        text = ("(main () (let w (call (loop (n) (let f (fun () (back n))) (while 1 ((hand (call f)) (set n (+ n 1))))) 5)) "
                "(let k 0) (while (< k 3) ((hand (step w 0)) (set k (+ k 1)))))")
        for room in ROOMS:
            told, machine = self.watched(turned(read(text)), [], 1000, room)
            self.assertEqual(told, ([5, 6, 7], END))

    def test_long_chains(self):
        text = ("(main () (let l (loop (v) (hand v))) (let w 0) (let k 0) "
                "(while (< k 150) ((set w (call l (call l (call l (call l (call l (call l w))))))) (set k (+ k 1)))) "
                "(hand (step w 0)) (hand k))")
        code = turned(read(text))
        for room in (0, 900, 1000):
            self.assertEqual(run_code(code, [], 1000, room), (["waiting", 150], END))

    def test_two_machines_by_turns(self):
        texts = [text for text, limit, row, ending in all_runs()]
        for first_text, second_text in zip(texts, texts[1:]):
            codes = [turned(read(first_text)), turned(read(second_text))]
            machines = [Machine(codes[0], [], 100, 0), Machine(codes[1], [], 100, 3)]
            while not all([machine.is_over() for machine in machines]):
                for machine in machines:
                    machine.go()
            for machine, code in zip(machines, codes):
                self.assertEqual((machine.row(), machine.ending()), run_code(code, [], 100, 1000))


class LimitsTest(MachineTest):
    def points(self, *numbers):
        for number_of_point in numbers:
            for body, limit, row, ending in RUNS[number_of_point]:
                self.ends(turned(read("(main () " + body + ")")), [], limit, row, ending)

    def test_values_signs_whiles_and_tries(self):
        self.points("9", "10", "13", "14")

    def test_calls_and_steps(self):
        self.points("11", "12")

    def test_a_step_that_is_deep_leaves_the_loop_as_it_was(self):
        text = ("(main () (let w (call (loop () (hand 6) (hand 7)))) (let down (fun (n) (if (< 1 n) ((back (call down (- n 1)))) "
                "((back (step w 1)))))) (try ((do (call down 30))) deep e ((hand e)) ()))")
        machine = Machine(turned(read(text)), [], 1000, 1000)
        waiting = None
        while not machine.is_over():
            machine.go()
            for k in machine.heap.numbers():
                if machine.heap.thing(k)[0] == "waiting":
                    waiting = waiting or machine.heap.thing(k)
                    self.assertEqual(machine.heap.thing(k), waiting)
        self.stands(machine, [0], END)

    def test_a_step_or_call_that_is_dry_changes_nothing(self):
        text = "(main () (let w (call (loop () (hand 6)))) (let f (fun (n) (back (fun () (back n))))) (do (step w 0)) (do (call f 1)))"
        code = turned(read(text))
        machine = Machine(code, [], 0, 1000)
        while not machine.is_over():
            machine.go()
        self.stands(machine, [], DRY)
        self.assertEqual([machine.heap.thing(k)[:3] for k in machine.heap.numbers() if machine.heap.thing(k)[0] == "waiting"],
                         [("waiting", 1, 0)])
        machine = Machine(code, [], 1, 1000)
        while not machine.is_over():
            told = machine.heap.numbers()
            machine.go()
        self.stands(machine, [], DRY)
        # Dry at the call of the fun: the state made nothing.
        self.assertEqual(machine.heap.numbers(), told)

    def test_each_limit(self):
        for text, limit, row, ending in all_runs():
            tree = read(text)
            code = turned(tree)
            for less in range(0, min(limit, 40), 3):
                self.assertEqual(run_code(code, [], less, less % 5), run_plain(tree, [], less))


class RefusalTest(MachineTest):
    code = turned(read("(main (x y) (let f (fun () (back x))) (hand (call f)) (hand y))"))

    def refused(self, error, *things):
        for asked in (Machine, run_code):
            with self.assertRaises(error) as caught:
                asked(*things)
            self.assertIs(type(caught.exception), error)

    def test_codes(self):
        for thing_handed_in in odd_things() + [(), [], list(self.code), self.code[0], self.code + (None,), nested(8000, tuple)]:
            self.refused(BadCode, thing_handed_in, [1, 2], 5, 5)
        self.refused(BadCode, one_machine(((), ("back", 1), ())), [], 5, 5)
        self.refused(BadCode, one_machine(((), ("go", 1), ())), [], 5, 5)
        self.refused(BadCode, one_machine(BACK, slots=1001), [], 5, 5)

    def test_inputs(self):
        for inputs in ([], [1], [1, 2, 3], (1, 2), "12", {1: 2, 3: 4}, None, 2, [1, True], [False, 1], [1, None], [1, "2"], [1, 2.0],
                       [1, GREAT + 1], [-GREAT - 1, 1], [[1], [2]], range(2)):
            self.refused(BadCount, self.code, inputs, 5, 5)
        for one in odd_things():
            self.refused(BadCount, self.code, one, 5, 5)
            self.refused(BadCount, self.code, [1, one], 5, 5)
        self.ends(self.code, [GREAT, -GREAT], 5, [GREAT, -GREAT], END)

    def test_limits_and_rooms(self):
        for one in odd_things() + [-1, 1001, 10 ** 30, "5", [5], (5,), 5.0, True, False, None]:
            self.refused(BadCount, self.code, [1, 2], one, 5)
            self.refused(BadCount, self.code, [1, 2], 5, one)
        for limit in (1, 1000):
            for room in (0, 1, 999, 1000):
                self.assertEqual(run_code(self.code, [1, 2], limit, room), ([1, 2], END))
        self.assertEqual(run_code(self.code, [1, 2], 0, 5), ([], DRY))

    def test_codes_ahead_of_counts(self):
        self.refused(BadCode, None, None, None, None)
        self.refused(BadCode, one_machine(((), ("go", 1), ())), [1], -1, -1)
        self.refused(BadCount, self.code, None, None, None)

    def test_what_is_handed_in_is_changed_behind(self):
        inputs = [1, 2]
        before = copy.deepcopy(self.code)
        machine = Machine(self.code, inputs, 5, 5)
        inputs[0] = 9
        inputs.clear()
        while not machine.is_over():
            machine.go()
        self.assertEqual(machine.row(), [1, 2])
        inputs = [3, 4]
        self.assertEqual(run_code(self.code, inputs, 5, 5), ([3, 4], END))
        self.assertEqual(inputs, [3, 4])
        self.assertEqual(self.code, before)

    def test_what_is_told_is_the_askers_own(self):
        machine = Machine(self.code, [1, 2], 5, 1000)
        while not machine.is_over():
            row = machine.row()
            roots = machine.roots()
            kept = list(roots)
            row.append(9)
            roots.clear()
            numbers = machine.heap.numbers()
            numbers.clear()
            self.assertEqual(machine.roots(), kept)
            self.assertNotIn(9, machine.row())
            machine.go()
        told = machine.row()
        told.append(9)
        self.stands(machine, [1, 2], END)
        told = run_code(self.code, [1, 2], 5, 5)
        told[0].clear()
        self.assertEqual(run_code(self.code, [1, 2], 5, 5), ([1, 2], END))

    def test_a_row_told_earlier_stays(self):
        machine = Machine(self.code, [1, 2], 5, 5)
        first = machine.row()
        while not machine.is_over():
            machine.go()
        self.assertEqual(first, [])


class WholeTest(MachineTest):
    """By the tree and by the code: the same row and the same ending."""

    def test_woven_programs(self):
        endings = {}
        for seed in range(1000, 1700):
            weaver = Weaver(seed)
            tree = weaver.program()
            code = turned(tree)
            inputs = [weaver.dice.choice((0, 1, 2, 5, -GREAT)) for name in tree[1]]
            limit = weaver.dice.choice((0, 1, 2, 5, 10, 30, 100, 300))
            told = run_plain(tree, inputs, limit)
            self.assertEqual(told, reference(tree, inputs, limit), seed)
            for room in (0, weaver.dice.randrange(1, 20), 1000):
                self.assertEqual(run_code(code, inputs, limit, room), told, seed)
            endings[told[1][:2]] = True
        for ending in (END, DRY, ("fault", "unset"), ("fault", "kind"), ("fault", "count"), ("fault", "deep")):
            self.assertIn(ending, endings)

    def test_samples(self):
        for text, limit, row, ending in all_runs():
            tree = read(text)
            self.assertEqual(run_plain(tree, [], limit), (row, ending))
            self.ends(turned(tree), [], limit, row, ending)


if __name__ == "__main__":
    unittest.main()

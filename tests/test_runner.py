import itertools
import unittest

from againbook.errors import NoCount, NoName, TooDeep, TooLong
from againbook.maker import made
from againbook.plain import plain
from againbook.reader import read
from againbook.runner import run
from programs import TOP, Given, Maker, Simple, are_plain, numbered, steps_by_path, told_or_refused


def as_plain(chain):
    """What the plain run tells, as a book tells it."""
    steps = steps_by_path(chain)
    written = {steps[path][2][1]: steps[path][2][2] for path in sorted(steps) if steps[path][2][0] == "write"}
    return chain[3], written, len(steps)


class RunnerTest(unittest.TestCase):
    def told(self, text, args=(), cells=(), most=300, f="main"):
        """The chain, once it was laid beside the plain run."""
        program = read(text)
        parts = made(program)
        before = repr(parts)
        handed = dict(cells)
        chain = run(parts, f, args, handed, most)
        self.assertEqual(run(parts, f, args, handed, most), chain)
        self.assertEqual(handed, dict(cells))
        self.assertEqual(repr(parts), before)
        self.assertTrue(are_plain(chain), chain)
        self.assertEqual(as_plain(chain), plain(program, f, args, handed, most))
        return chain

    def tells(self, expected, text, args=(), cells=(), f="main"):
        chain = self.told(text, args, cells, f=f)
        self.assertEqual(chain, expected)
        turns = len(steps_by_path(chain))
        self.told(text, args, cells, turns, f)
        for most in range(turns):
            self.refused(TooLong, text, args, cells, most, f)

    def refused(self, refusal, text, args=(), cells=(), most=300, f="main"):
        parts = made(read(text))
        handed = dict(cells)
        for _ in range(2):
            with self.assertRaises(refusal) as taken:
                run(parts, f, args, handed, most)
            self.assertEqual(handed, dict(cells))
        with self.assertRaises(refusal):
            plain(read(text), f, args, handed, most)
        return taken.exception


class ChainTest(RunnerTest):
    def test_without_steps(self):
        self.tells(("main", (), (), 0), "def main\nend")
        self.tells(("main", (), (), 7), "def main\n set x 3\n give (+ x 4)\nend")
        self.tells(("main", (5, 2), (), 3), "def main a b\n give (- a b)\nend", (5, 2))

    def test_a_read(self):
        self.tells(("main", (4,), ((0, (4,), ("read", 5, 9)),), 9), "def main a\n read x (+ a 1)\n give x\nend", (4,),
                   {5: 9})

    def test_a_write(self):
        self.tells(("main", (4,), ((0, (4,), ("write", 5, 8)),), 0), "def main a\n write (+ a 1) (+ a a)\nend", (4,))

    def test_an_ask(self):
        text = "def main a\n if a\n  give 1\n else\n  give 2\n end\nend"
        self.tells(("main", (4,), ((0, (4,), ("ask", 1)),), 1), text, (4,))
        self.tells(("main", (0,), ((0, (0,), ("ask", 0)),), 2), text, (0,))

    def test_a_while(self):
        self.tells(("main", (2,), ((0, (2, 0), ("ask", 1)), (1, (2, 0), ("write", 2, 0)), (0, (1, 2), ("ask", 1)),
                                   (1, (1, 2), ("write", 1, 2)), (0, (0, 3), ("ask", 0))), 3),
                   "def main a\n while a\n  write a b\n  set b (+ a b)\n  set a (- a 1)\n end\n give b\nend", (2,))

    def test_a_call(self):
        self.tells(("main", (3,), ((0, (3,), ("call", ("f", (3, 4), ((0, (4, 3), ("write", 3, 4)),), 12))),), 15),
                   "def main a\n call x f a 4\n give (+ a x)\nend\n"
                   "def f c b\n write c b\n give (* b c)\nend", (3,))

    def test_calls_within_calls(self):
        leaf = ("h", (), ((0, (), ("read", 1, 6)),), 6)
        mid = ("g", (), ((0, (), ("call", leaf)), (1, (6,), ("call", leaf))), 12)
        self.tells(("main", (), ((0, (), ("call", mid)), (1, (12,), ("call", leaf))), 18),
                   "def main\n call x g\n call y h\n give (+ x y)\nend\n"
                   "def g\n call x h\n call y h\n give (+ x y)\nend\n"
                   "def h\n read x 1\n give x\nend", (), {1: 6})

    def test_a_call_of_a_chain_without_steps(self):
        self.tells(("main", (), ((0, (), ("call", ("f", (), (), 0))),), 1),
                   "def main\n call x f\n give (+ x 1)\nend\ndef f\nend")

    def test_of_each_def(self):
        text = "def f a\n give a\nend\ndef g\n call x f 7\n give x\nend"
        self.tells(("f", (5,), (), 5), text, (5,), f="f")
        self.tells(("g", (), ((0, (), ("call", ("f", (7,), (), 7))),), 7), text, f="g")

    def test_just_what_is_used_ahead_is_held(self):
        self.tells(("main", (1, 2, 3), ((0, (2,), ("read", 2, 0)), (1, (2, 0), ("write", 2, 0))), 0),
                   "def main a b c\n read x b\n set a 5\n write b x\nend", (1, 2, 3))

    def test_0_of_what_nothing_was_put_into(self):
        self.tells(("main", (), ((0, (0, 0), ("write", 0, 0)),), 0), "def main\n write a b\nend")

    def test_comparisons_are_whole_numbers(self):
        chain = self.told("def main a\n write (< a 5) (= a 3)\n give (= a a)\nend", (3,))
        self.assertEqual(repr(chain), repr(("main", (3,), ((0, (3,), ("write", 1, 1)),), 1)))


class CellsTest(RunnerTest):
    text = "def main c\n read x c\n write c (+ x 1)\n read y c\n give y\nend"

    def test_a_read_finds_what_the_cells_hold(self):
        self.assertEqual(self.told(self.text, (1,), {1: 5, 2: 6})[2][0], (0, (1,), ("read", 1, 5)))
        self.assertEqual(self.told(self.text, (2,), {1: 5, 2: 6})[2][0], (0, (2,), ("read", 2, 6)))
        self.assertEqual(self.told(self.text, (TOP - 1,), {TOP - 1: TOP - 1})[3], 0)

    def test_0_where_the_cells_lack_it(self):
        self.assertEqual(self.told(self.text, (3,), {1: 5})[2][0], (0, (3,), ("read", 3, 0)))
        self.assertEqual(self.told(self.text, (3,))[3], 1)

    def test_what_was_written_last_in_this_run(self):
        self.assertEqual(self.told(self.text, (1,), {1: 5})[2][2][2], ("read", 1, 6))
        self.tells(("main", (), ((0, (), ("write", 1, 2)), (1, (), ("write", 1, 0)), (2, (), ("read", 1, 0))), 0),
                   "def main\n write 1 2\n write 1 0\n read x 1\n give x\nend", (), {1: 5})

    def test_a_write_into_another_cell_is_not_found(self):
        self.assertEqual(self.told("def main\n write 2 8\n read x 1\n give x\nend", (), {1: 5})[3], 5)

    def test_by_a_chain_that_was_called(self):
        text = ("def main\n write 1 3\n call x f\n read y 1\n give (+ x y)\nend\n"
                "def f\n read x 1\n write 1 (+ x 10)\n give 100\nend")
        inner = ("f", (), ((0, (), ("read", 1, 3)), (1, (3,), ("write", 1, 13))), 100)
        steps = ((0, (), ("write", 1, 3)), (1, (), ("call", inner)), (2, (100,), ("read", 1, 13)))
        self.tells(("main", (), steps, 113), text, (), {1: 5})

    def test_by_a_chain_beside(self):
        text = ("def main\n call x f\n call y g\n give y\nend\n"
                "def f\n write 1 8\nend\ndef g\n read x 1\n give x\nend")
        self.assertEqual(self.told(text, (), {1: 5})[3], 8)

    def test_one_run_leaves_nothing_to_the_next(self):
        parts = made(read(self.text))
        cells = {1: 5}
        first = run(parts, "main", (1,), cells, 300)
        self.assertEqual(run(parts, "main", (1,), cells, 300), first)
        cells[1] = 8
        self.assertEqual(first[3], 6)
        self.assertEqual(run(parts, "main", (1,), cells, 300)[3], 9)

    def test_the_cells_stay_behind_a_refusal(self):
        self.refused(TooLong, "def main\n write 1 2\n while 1\n end\nend", (), {1: 5})


class TooLongTest(RunnerTest):
    def test_a_most_of_0(self):
        self.assertEqual(self.told("def main\n set x 4\n give x\nend", most=0), ("main", (), (), 4))
        for statement in ("read x 1", "write 1 1", "call x main", "if 1\nelse\nend", "if 0\nelse\nend", "while 0\nend"):
            self.refused(TooLong, "def main\n" + statement + "\nend", most=0)

    def test_as_many_turns_as_the_most(self):
        text = "def main n\n while (< i n)\n  set i (+ i 1)\n end\n give i\nend"
        self.assertEqual(self.told(text, (299,))[3], 299)
        self.refused(TooLong, text, (300,))
        self.refused(TooLong, text, (299,), most=299)
        for most in range(5):
            self.refused(TooLong, text, (most,), most=most)
            self.assertEqual(self.told(text, (most,), most=most + 1)[3], most)

    def test_a_while_without_an_end(self):
        for most in (0, 1, 2, 299, 300):
            self.refused(TooLong, "def main\n while 1\n end\nend", most=most)
            self.refused(TooLong, "def main\n while 1\n  read x 1\n  set y x\n end\nend", most=most)

    def test_steps_of_chains_within_take_turns_too(self):
        text = ("def main\n call x f\n call x f\n write 1 1\nend\n"
                "def f\n read x 1\n read y 2\nend")
        self.assertEqual(self.told(text, most=7)[3], 0)
        for most in range(7):
            self.refused(TooLong, text, most=most)


class TooDeepTest(RunnerTest):
    # Of n it calls itself n times: the last one is n deep.
    down = "def main n\n if n\n  call x main (- n 1)\n  give (+ x 1)\n else\n end\nend"

    def test_fifteen_deep(self):
        for n in range(16):
            chain = self.told(self.down, (n,))
            self.assertEqual(chain[3], n)
            deep = 0
            while chain[2][-1][2][0] == "call":
                chain = chain[2][-1][2][1]
                deep += 1
            self.assertEqual(deep, n)

    def test_sixteen_deep(self):
        for n in (16, 17, TOP - 1):
            self.refused(TooDeep, self.down, (n,))

    def test_behind_its_turn(self):
        self.refused(TooLong, self.down, (16,), most=31)
        self.refused(TooDeep, self.down, (16,), most=32)
        endless = "def main\n call x main\nend"
        self.refused(TooLong, endless, most=15)
        self.refused(TooDeep, endless, most=16)
        self.refused(TooDeep, endless)

    def test_calls_one_behind_another_lie_no_deeper(self):
        text = ("def main\n while (< i 50)\n  call i f i\n end\n give i\nend\n"
                "def f i\n call i g i\n give i\nend\ndef g i\n give (+ i 1)\nend")
        self.assertEqual(self.told(text)[3], 50)

    def test_fifteen_deep_again_behind_fifteen_deep(self):
        text = self.down + "\ndef two n\n call x main n\n call y main n\n give (+ x y)\nend"
        self.assertEqual(self.told(text, (14,), f="two")[3], 28)
        self.refused(TooDeep, text, (15,), f="two")

    def test_by_calls_of_unlike_defs(self):
        text = ("def f n\n if n\n  call x g (- n 1)\n else\n end\n give x\nend\n"
                "def g n\n if n\n  call x f (- n 1)\n else\n end\n give 8\nend")
        self.assertEqual(self.told(text, (15,), f="f")[3], 8)
        self.refused(TooDeep, text, (16,), f="f")


class RefusedAheadTest(RunnerTest):
    text = "def main a\n write 1 1\n while 1\n end\nend\ndef f\nend"

    def test_no_name(self):
        for most in (0, 300):
            for args in ((), (1,), (1, 2)):
                self.assertEqual(self.refused(NoName, self.text, args, most=most, f="none").name, "none")
        self.assertEqual(self.refused(NoName, "").name, "main")

    def test_no_count(self):
        for most in (0, 300):
            for args in ((), (1, 2), (1, 2, 3)):
                self.assertEqual(self.refused(NoCount, self.text, args, most=most).name, "main")
            self.assertEqual(self.refused(NoCount, self.text, (1,), most=most, f="f").name, "f")

    def test_the_right_count_is_run(self):
        self.refused(TooLong, self.text, (1,))
        self.assertEqual(self.told(self.text, f="f", most=0), ("f", (), (), 0))


class Booked(Simple):
    """The plain run statement by statement that notes each turn down as a step, without any ways."""

    def __init__(self, program, cells, most):
        self.names = {(f, n): names for f, _, _, cuts in made(program) for n, (names, _, _) in enumerate(cuts)}
        super().__init__([(f, params, numbered(body, itertools.count())) for f, params, body in program], cells, most)
        self.chains = []

    def run(self, f, numbers, deep):
        self.chains.append((f, []))
        params, body = self.defs[f]
        answer = 0
        try:
            self.body(body, dict(zip(params, numbers)), deep)
        except Given as given:
            answer = given.args[0]
        self.called = (f, tuple(numbers), tuple(self.chains.pop()[1]), answer)
        return answer

    def note(self, n, held, what):
        f, steps = self.chains[-1]
        steps.append((n, tuple([held.get(name, 0) for name in self.names[f, n]]), what))

    def do_read(self, held, deep, name, term, n):
        before = dict(held)
        super().do_read(held, deep, name, term)
        self.note(n, before, ("read", self.term(term, before), held[name]))

    def do_write(self, held, deep, cell, term, n):
        super().do_write(held, deep, cell, term)
        self.note(n, held, ("write", self.term(cell, held), self.term(term, held)))

    def do_call(self, held, deep, name, f, terms, n):
        before = dict(held)
        super().do_call(held, deep, name, f, terms)
        self.note(n, before, ("call", self.called))

    def do_if(self, held, deep, term, body, other, n):
        self.turn()
        found = int(self.term(term, held) != 0)
        self.note(n, held, ("ask", found))
        self.body(body if found else other, held, deep)

    def do_while(self, held, deep, term, body, n):
        found = 1
        while found:
            self.turn()
            found = int(self.term(term, held) != 0)
            self.note(n, held, ("ask", found))
            self.body(body if found else (), held, deep)


def booked(program, f, args, cells, most):
    simple = Booked(program, cells, most)
    simple.run(f, args, 0)
    return simple.called


class ManyTest(unittest.TestCase):
    def test_made_programs_beside_the_plain_run_and_the_noted_one(self):
        seen = {}
        for seed in range(300):
            maker = Maker(seed)
            program = maker.program()
            parts = made(program)
            cells = {cell: maker.number() for cell in range(4)}
            for f, params, _ in program:
                args = tuple([maker.number() for _ in params])
                for most in (0, 1, 2, 3, 5, 8, 20, 300):
                    with self.subTest(seed=seed, f=f, most=most):
                        told = told_or_refused(run, parts, f, args, cells, most)
                        expected = told_or_refused(plain, program, f, args, cells, most)
                        self.assertEqual(told if isinstance(told, type) else as_plain(told), expected)
                        self.assertEqual(told, told_or_refused(booked, program, f, args, cells, most))
                        sort = told if isinstance(told, type) else "chain"
                        seen[sort] = seen.get(sort, 0) + 1
        for sort in (TooLong, TooDeep, "chain"):
            self.assertGreater(seen.get(sort, 0), 50, sort)


if __name__ == "__main__":
    unittest.main()

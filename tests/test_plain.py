import unittest

from againbook.errors import NoCount, NoName, TooDeep, TooLong
from againbook.plain import plain
from againbook.reader import read
from programs import (
    SIGNS, TOP, Maker, Simple, add, call, give, loop, made_def, num, one_def, op, read_to, set_to, told_or_refused, var,
    when, write,
)


def simple(program, f, args, cells, most):
    run = Simple(program, cells, most)
    return run.run(f, args, 0), run.written, run.turns


class PlainTest(unittest.TestCase):
    def tells(self, expected, program, args=(), cells=(), most=300, f="main"):
        cells = dict(cells)
        for _ in range(2):
            answer = plain(program, f, args, cells, most)
            self.assertEqual(answer, expected)
            self.assertIs(type(answer), tuple)
            self.assertIs(type(answer[1]), dict)
            numbers = [answer[0], answer[2]] + list(answer[1]) + list(answer[1].values())
            self.assertEqual({type(number) for number in numbers}, {int})

    def refused(self, refusal, program, args=(), cells=(), most=300, f="main"):
        for _ in range(2):
            with self.assertRaises(refusal) as taken:
                plain(program, f, args, dict(cells), most)
        return taken.exception

    def needs(self, expected, program, args=(), cells=()):
        """Told with as many turns as it takes, and with more; refused with each number of them below."""
        turns = expected[2]
        self.tells(expected, program, args, cells, turns)
        self.tells(expected, program, args, cells, turns + 1)
        for most in range(turns):
            self.refused(TooLong, program, args, cells, most)


class StatementsTest(PlainTest):
    def test_no_statements(self):
        self.needs((0, {}, 0), one_def())

    def test_give(self):
        self.needs((7, {}, 0), one_def(give(num(7))))
        self.needs((0, {}, 0), one_def(give(var("x"))))
        self.needs((TOP - 1, {}, 0), one_def(give(op("-", num(0), num(1)))))

    def test_comparisons_give_numbers(self):
        self.needs((1, {}, 0), one_def(give(op("<", num(1), num(2)))))
        self.needs((0, {2: 1}, 1), one_def(write(num(2), op("=", num(1), num(1)))))

    def test_nothing_behind_a_give_is_done(self):
        self.needs((1, {}, 0), one_def(give(num(1)), write(num(1), num(2)), give(num(3))))
        self.needs((1, {}, 1), one_def(when(num(1), [give(num(1)), write(num(1), num(2))], []), write(num(3), num(4))))
        self.needs((2, {}, 1), one_def(when(num(0), [], [give(num(2))]), write(num(3), num(4)), give(num(9))))
        self.needs((1, {}, 1), one_def(loop(num(1), give(num(1)), write(num(1), num(2))), give(num(9))))
        self.needs((4, {}, 4), one_def(loop(num(1), when(num(1), [loop(num(1), when(num(1), [give(num(4))]))])),
                                       write(num(1), num(1))))

    def test_a_body_without_a_give_gives_0(self):
        self.needs((0, {1: 5}, 1), one_def(set_to("x", num(5)), write(num(1), var("x"))))
        self.needs((0, {}, 1), one_def(when(num(0), [give(num(1))])))

    def test_params(self):
        program = (made_def("main", ("a", "b"), give(op("-", var("a"), var("b")))),)
        self.needs((4, {}, 0), program, (7, 3))
        self.needs((TOP - 4, {}, 0), program, (3, 7))

    def test_a_param_may_be_put_into(self):
        self.needs((3, {}, 0), (made_def("main", ("a",), set_to("a", add(var("a"), num(1))), give(var("a"))),), (2,))

    def test_set(self):
        self.needs((5, {}, 0), one_def(set_to("x", num(2)), set_to("y", add(var("x"), num(3))), set_to("x", num(9)),
                                       give(var("y"))))
        self.needs((1, {}, 0), one_def(set_to("x", add(var("x"), num(1))), give(var("x"))))

    def test_read(self):
        program = one_def(read_to("x", num(3)), give(add(var("x"), num(1))))
        self.needs((9, {}, 1), program, cells={3: 8, 4: 1})
        self.needs((1, {}, 1), program, cells={4: 1})
        self.needs((5, {}, 1), (made_def("main", ("a",), read_to("a", op("*", var("a"), num(2))), give(var("a"))),),
                   (2,), {4: 5, 2: 6})
        self.needs((3, {}, 1), one_def(read_to("x", num(TOP - 1)), give(var("x"))), cells={TOP - 1: 3})

    def test_write(self):
        self.needs((0, {1: 2}, 1), one_def(write(num(1), num(2))), cells={1: 5, 2: 6})
        self.needs((0, {3: TOP - 1, 0: 0}, 2), one_def(write(add(num(1), num(2)), num(TOP - 1)), write(var("x"),
                                                                                                       num(0))))

    def test_left_has_the_cells_written_and_no_others(self):
        self.needs((5, {2: 5}, 2), one_def(read_to("x", num(1)), write(num(2), var("x")), give(var("x"))),
                   cells={1: 5, 2: 7, 3: 8})
        self.needs((0, {1: 7}, 1), one_def(write(num(1), num(7))), cells={1: 7})
        self.needs((0, {1: 3}, 3), one_def(write(num(1), num(1)), write(num(1), num(2)), write(num(1), num(3))))

    def test_a_read_finds_what_was_written_last(self):
        self.needs((2, {1: 2}, 3), one_def(write(num(1), num(1)), write(num(1), num(2)), read_to("x", num(1)),
                                           give(var("x"))),
                   cells={1: 9})
        self.needs((9, {1: 2}, 2), one_def(read_to("x", num(1)), write(num(1), num(2)), give(var("x"))), cells={1: 9})
        self.needs((0, {1: 0}, 2), one_def(write(num(1), num(0)), read_to("x", num(1)), give(var("x"))), cells={1: 9})
        self.needs((9, {2: 4}, 2), one_def(write(num(2), num(4)), read_to("x", num(1)), give(var("x"))), cells={1: 9})

    def test_if(self):
        program = (made_def("main", ("a",), when(var("a"), [set_to("x", num(1)), set_to("y", num(5))],
                                                 [set_to("x", num(2)), set_to("z", num(50))]),
                            give(add(var("x"), add(var("y"), var("z"))))),)
        self.needs((6, {}, 1), program, (1,))
        self.needs((6, {}, 1), program, (TOP - 1,))
        self.needs((52, {}, 1), program, (0,))

    def test_statements_in_their_order(self):
        ten = op("*", var("x"), num(10))
        digits = [set_to("x", add(ten, num(digit))) for digit in range(10)]
        self.needs((123456, {}, 1), one_def(digits[1], digits[2], when(num(1), digits[3:5], digits[7:9]), *digits[5:7],
                                            give(var("x"))))
        self.needs((127856, {}, 1), one_def(digits[1], digits[2], when(num(0), digits[3:5], digits[7:9]), *digits[5:7],
                                            give(var("x"))))
        self.needs((12125, {}, 3), one_def(loop(op("<", var("x"), num(100)), digits[1], digits[2]), digits[5],
                                           give(var("x"))))

    def test_while(self):
        program = (made_def("main", ("a",), loop(var("a"), set_to("x", add(var("x"), var("a"))),
                                                 set_to("a", op("-", var("a"), num(1)))), give(var("x"))),)
        self.needs((0, {}, 1), program, (0,))
        self.needs((1, {}, 2), program, (1,))
        self.needs((15, {}, 6), program, (5,))

    def test_whiles_within_one_another(self):
        inner = loop(op("<", var("j"), num(3)), set_to("j", add(var("j"), num(1))), set_to("x", add(var("x"),
                                                                                                    var("i"))))
        program = one_def(loop(op("<", var("i"), num(4)), set_to("i", add(var("i"), num(1))), set_to("j", num(0)),
                               inner),
                          give(var("x")))
        self.needs((30, {}, 5 + 4 * 4), program)

    def test_call(self):
        program = (
            made_def("main", ("a",), call("x", "f", var("a"), add(var("a"), num(1))), give(add(var("x"), var("b")))),
            made_def("f", ("b", "c"), set_to("a", num(100)), give(add(op("*", var("b"), num(10)), var("c")))),
        )
        self.needs((34, {}, 1), program, (3,))

    def test_a_call_sets_its_variable_to_the_answer(self):
        program = (made_def("main", (), set_to("x", num(5)), call("x", "f"), give(var("x"))), made_def("f", ()))
        self.needs((0, {}, 1), program)

    def test_a_call_begins_with_no_variables_but_its_params(self):
        program = (
            made_def("main", ("a",), set_to("y", num(7)), call("x", "f", num(1)), call("x", "f", num(2)),
                     give(add(var("x"), add(op("*", var("y"), num(10)), op("*", var("a"), num(100)))))),
            made_def("f", ("b",), set_to("z", add(var("z"), num(1))), set_to("y", num(9)),
                     give(add(var("z"), var("a")))),
        )
        self.needs((271, {}, 2), program, (2,))

    def test_a_give_ends_just_its_own_def(self):
        program = (made_def("main", (), call("x", "f"), write(num(1), var("x")), give(num(2))),
                   made_def("f", (), loop(num(1), give(num(3))), write(num(1), num(4))))
        self.needs((2, {1: 3}, 3), program)

    def test_a_read_finds_what_another_def_wrote(self):
        program = (
            made_def("main", (), write(num(1), num(2)), call("x", "f"), read_to("y", num(1)), read_to("z", num(2)),
                     give(add(var("x"), add(op("*", var("y"), num(10)), op("*", var("z"), num(100)))))),
            made_def("f", (), read_to("x", num(1)), write(num(1), num(3)), write(num(2), num(4)), give(var("x"))),
        )
        self.needs((432, {1: 3, 2: 4}, 7), program, cells={1: 8, 2: 9})

    def test_calls_of_itself_and_of_earlier_defs(self):
        program = (
            made_def("fac", ("n",), when(var("n"), [call("x", "fac", op("-", var("n"), num(1))),
                                                    give(op("*", var("n"), var("x")))]), give(num(1))),
            made_def("main", (), call("x", "fac", num(5)), give(var("x"))),
        )
        self.needs((120, {}, 1 + 5 * 2 + 1), program)

    def test_any_def_may_be_run(self):
        program = (made_def("f", (), give(num(1))), made_def("g", ("a",), call("x", "f"), give(add(var("x"),
                                                                                                   var("a")))))
        self.tells((1, {}, 0), program, f="f")
        self.tells((6, {}, 1), program, (5,), f="g")

    def test_each_op(self):
        expected = {"+": 9, "-": 5, "*": 14, "/": 3, "<": 0, "=": 0}
        for sign in SIGNS:
            with self.subTest(sign=sign):
                self.needs((expected[sign], {}, 0), (made_def("main", ("a", "b"), give(op(sign, var("a"),
                                                                                          var("b")))),), (7, 2))

    def test_a_program_that_was_read(self):
        program = read("def main n\n"
                       "set sum 0\nset i 0\n"
                       "while (< i n)\nread x i\nset sum (+ sum x)\nset i (+ i 1)\nend\n"
                       "write 100 sum\ncall y twice 100\ngive y\nend\n"
                       "def twice c\nread x c\nif (< x 10)\ngive (* 2 x)\nelse\ngive x\nend\nend")
        self.needs((12, {100: 6}, 4 + 3 + 1 + 1 + 2), program, (3,), {0: 1, 1: 2, 2: 3, 3: 4, 100: 5})
        self.needs((11, {100: 11}, 2 + 1 + 1 + 1 + 2), program, (1,), {0: 11})


class TurnsTest(PlainTest):
    def test_sets_and_gives_take_none(self):
        self.needs((3, {}, 0), one_def(set_to("x", num(1)), set_to("x", num(2)), set_to("x", num(3)), give(var("x"))))

    def test_one_ahead_of_each(self):
        self.needs((0, {}, 1), one_def(read_to("x", num(1))))
        self.needs((0, {1: 1}, 1), one_def(write(num(1), num(1))))
        self.needs((0, {}, 1), (made_def("main", (), call("x", "f")), made_def("f", ())))
        self.needs((0, {}, 1), one_def(when(num(1), [])))
        self.needs((0, {}, 1), one_def(when(num(0), [])))
        self.needs((0, {}, 1), one_def(loop(num(0))))

    def test_each_asking_of_a_while(self):
        counted = loop(op("<", var("i"), num(10)), set_to("i", add(var("i"), num(1))))
        self.needs((0, {}, 11), one_def(counted))
        self.needs((0, {}, 12), one_def(counted, counted))

    def test_turns_of_all_defs_count_together(self):
        program = (made_def("main", (), call("x", "f"), call("x", "f"), read_to("x", num(1))),
                   made_def("f", (), read_to("x", num(1)), write(num(1), num(2))))
        self.needs((0, {1: 2}, 7), program)

    def test_a_while_without_an_end(self):
        for most in (0, 1, 299, 300):
            self.refused(TooLong, one_def(loop(num(1))), most=most)
            self.refused(TooLong, one_def(loop(num(1), loop(num(0)), set_to("x", num(1)))), most=most)

    def test_as_many_turns_as_the_most(self):
        counted = one_def(loop(op("<", var("i"), num(299)), set_to("i", add(var("i"), num(1)))))
        self.tells((0, {}, 300), counted, most=300)
        self.refused(TooLong, counted, most=299)

    def test_a_most_of_0(self):
        self.tells((4, {}, 0), one_def(set_to("x", num(4)), give(var("x"))), most=0)
        for statement in (read_to("x", num(1)), write(num(1), num(1)), call("x", "main"), when(num(1), []),
                          loop(num(0))):
            self.refused(TooLong, one_def(statement), most=0)


class DeepTest(PlainTest):
    # Of n it calls itself n times: the last one is n deep.
    down = (made_def("main", ("n",), when(var("n"), [call("x", "main", op("-", var("n"), num(1))),
                                                     give(add(var("x"), num(1)))])),)

    def test_fifteen_deep(self):
        for n in range(16):
            self.tells((n, {}, 2 * n + 1), self.down, (n,))

    def test_sixteen_deep(self):
        self.refused(TooDeep, self.down, (16,))
        self.refused(TooDeep, self.down, (17,))
        self.refused(TooDeep, self.down, (TOP - 1,))

    def test_behind_its_turn(self):
        self.refused(TooLong, self.down, (16,), most=31)
        self.refused(TooDeep, self.down, (16,), most=32)
        endless = one_def(call("x", "main"))
        self.refused(TooLong, endless, most=15)
        self.refused(TooDeep, endless, most=16)
        self.refused(TooDeep, endless, most=300)

    def test_calls_one_behind_another_lie_no_deeper(self):
        program = (made_def("main", (), loop(op("<", var("i"), num(50)), call("i", "f", var("i")))),
                   made_def("f", ("i",), call("i", "g", var("i")), give(var("i"))),
                   made_def("g", ("i",), give(add(var("i"), num(1)))))
        self.needs((0, {}, 51 + 100), program)

    def test_fifteen_deep_again_behind_fifteen_deep(self):
        program = (self.down[0], made_def("two", ("n",), call("x", "main", var("n")), call("y", "main", var("n")),
                                          give(add(var("x"), var("y")))))
        self.tells((28, {}, 2 * 30), program, (14,), f="two")
        self.refused(TooDeep, program, (15,), f="two")

    def test_by_calls_of_unlike_defs(self):
        program = (made_def("f", ("n",), when(var("n"), [call("x", "g", op("-", var("n"), num(1)))]), give(var("x"))),
                   made_def("g", ("n",), when(var("n"), [call("x", "f", op("-", var("n"), num(1)))]), give(num(8))))
        self.tells((8, {}, 31), program, (15,), f="f")
        self.refused(TooDeep, program, (16,), f="f")

    def test_deep_calls_within_deep_statements(self):
        for nest in (5, 60):
            statement = call("x", "main", op("-", var("n"), num(1)))
            for _ in range(nest):
                statement = when(var("n"), [statement])
            program = (made_def("main", ("n",), statement, give(add(var("x"), num(1)))),)
            self.tells((16, {}, 15 * (nest + 1) + 1), program, (15,), most=2000)


class RefusedAheadTest(PlainTest):
    program = (made_def("main", ("a",), write(num(1), num(1)), loop(num(1))), made_def("f", ()))

    def test_no_name(self):
        for most in (0, 300):
            for args in ((), (1,), (1, 2)):
                self.assertEqual(self.refused(NoName, self.program, args, most=most, f="none").name, "none")
        self.assertEqual(self.refused(NoName, (), f="main").name, "main")
        self.assertEqual(self.refused(NoName, self.program, (1,), f="a").name, "a")

    def test_no_count(self):
        for most in (0, 300):
            for args in ((), (1, 2), (1, 2, 3)):
                self.assertEqual(self.refused(NoCount, self.program, args, most=most).name, "main")
            self.assertEqual(self.refused(NoCount, self.program, (1,), most=most, f="f").name, "f")

    def test_the_right_count_is_run(self):
        self.refused(TooLong, self.program, (1,))
        self.tells((0, {}, 0), self.program, f="f", most=0)


class KeptTest(unittest.TestCase):
    program = (made_def("main", ("a",), read_to("x", num(1)), write(num(1), add(var("x"), num(1))), write(var("a"),
                                                                                                          var("x")),
                        give(var("x"))),)

    def test_what_is_handed_in_stays(self):
        cells = {1: 5, 2: 6}
        args = (3,)
        before = repr(self.program)
        self.assertEqual(plain(self.program, "main", args, cells, 300), (5, {1: 6, 3: 5}, 3))
        self.assertEqual(cells, {1: 5, 2: 6})
        self.assertEqual(args, (3,))
        self.assertEqual(repr(self.program), before)

    def test_what_is_handed_in_stays_behind_a_refusal(self):
        cells = {1: 5}
        with self.assertRaises(TooLong):
            plain(self.program, "main", (3,), cells, 2)
        self.assertEqual(cells, {1: 5})
        self.assertEqual(plain(self.program, "main", (3,), cells, 3), (5, {1: 6, 3: 5}, 3))

    def test_the_cells_told_are_the_askers_own(self):
        cells = {1: 5}
        first = plain(self.program, "main", (3,), cells, 300)
        first[1].clear()
        first[1][9] = 9
        second = plain(self.program, "main", (3,), cells, 300)
        self.assertEqual(second, (5, {1: 6, 3: 5}, 3))
        cells[1] = 8
        self.assertEqual(second, (5, {1: 6, 3: 5}, 3))
        self.assertEqual(plain(self.program, "main", (3,), cells, 300), (8, {1: 9, 3: 8}, 3))

    def test_nothing_written_is_told_as_a_dict_of_its_own(self):
        cells = {}
        left = plain(one_def(), "main", (), cells, 300)[1]
        left[1] = 1
        self.assertEqual(cells, {})
        self.assertEqual(plain(one_def(), "main", (), cells, 300)[1], {})


class MadeTest(unittest.TestCase):
    def test_made_programs_beside_the_simple_run(self):
        seen = {}
        for seed in range(400):
            maker = Maker(seed)
            program = maker.program()
            cells = {cell: maker.number() for cell in range(4)}
            for f, params, _ in program:
                args = tuple([maker.number() for _ in params])
                for most in (0, 1, 2, 5, 20, 300):
                    with self.subTest(seed=seed, f=f, most=most):
                        handed = (program, f, args, cells, most)
                        expected = told_or_refused(simple, *handed)
                        self.assertEqual(told_or_refused(plain, *handed), expected)
                        sort = expected if isinstance(expected, type) else "answer"
                        seen[sort] = seen.get(sort, 0) + 1
        for sort in (TooLong, TooDeep, "answer"):
            self.assertGreater(seen.get(sort, 0), 50, sort)


if __name__ == "__main__":
    unittest.main()

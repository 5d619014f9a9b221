import itertools
import unittest

from againbook.maker import made
from againbook.reader import read
from programs import (
    add, are_plain, body_of, call, give, is_used_ahead, loop, made_def, made_programs, num, numbered, one_def, op,
    passed, read_to, set_to, var, variables, when, write,
)

GIVE_0 = ("give", num(0))
TO_END = ((), GIVE_0)


def go(n, *sets):
    return (tuple(sets), ("go", n))


def to_give(term, *sets):
    return (tuple(sets), ("give", term))


def cut(names, deed, *ways):
    return (tuple(names.split()), deed, ways)


class MakerTest(unittest.TestCase):
    def part(self, text, params=()):
        program = (("main", tuple(params), body_of(text)),)
        before = repr(program)
        told = made(program)
        self.assertEqual(made(program), told)
        self.assertEqual(repr(program), before)
        self.assertTrue(are_plain(told), told)
        self.assertEqual(len(told), 1)
        self.assertEqual(told[0][:2], ("main", tuple(params)))
        return told[0]

    def tells(self, text, first, *cuts):
        self.assertEqual(self.part(text)[2:], (first, cuts))

    def numbers(self, text):
        """Each cut's deed, in the order of their numbers."""
        return [deed for _, deed, _ in self.part(text)[3]]

    def params(self, text):
        return [" ".join(names) for names, _, _ in self.part(text)[3]]


class PartsTest(MakerTest):
    def test_no_defs(self):
        self.assertEqual(made(()), ())

    def test_a_def_without_statements(self):
        self.assertEqual(made(one_def()), (("main", (), TO_END, ()),))
        self.assertEqual(made((made_def("f", ("b", "a")),)), (("f", ("b", "a"), TO_END, ()),))

    def test_a_part_for_each_def_in_order(self):
        program = (made_def("z", ("c", "a", "b"), give(var("a"))), made_def("a", (), write(num(1), num(2))),
                   made_def("m", ("x",), call("y", "z", num(1), num(2), num(3)), give(var("y"))))
        self.assertEqual(made(program), (
            ("z", ("c", "a", "b"), to_give(var("a")), ()),
            ("a", (), go(0), (cut("", ("write", num(1), num(2)), TO_END),)),
            ("m", ("x",), go(0), (cut("", ("call", "y", "z", (num(1), num(2), num(3))), to_give(var("y"))),)),
        ))

    def test_each_defs_cuts_are_numbered_for_themselves(self):
        program = read("def f\nread x 1\nread y x\nend\ndef g\nread z 1\nread a z\nend")
        for _, _, first, cuts in made(program):
            self.assertEqual(first, go(0))
            self.assertEqual([ways for _, _, ways in cuts], [(go(1),), (TO_END,)])

    def test_the_program_stays_and_is_told_the_same_again(self):
        for program in made_programs(50):
            before = repr(program)
            told = made(program)
            self.assertEqual(repr(program), before)
            self.assertEqual(made(program), told)
            self.assertTrue(are_plain(told))


class CutsTest(MakerTest):
    def test_deeds_of_each_kind(self):
        self.tells("read x a", go(0), cut("a", ("read", "x", var("a")), TO_END))
        self.tells("write a b", go(0), cut("a b", ("write", var("a"), var("b")), TO_END))
        self.tells("call x f b 1 a", go(0), cut("a b", ("call", "x", "f", (var("b"), num(1), var("a"))), TO_END))
        self.tells("call x f", go(0), cut("", ("call", "x", "f", ()), TO_END))
        self.tells("if (< a b)\nelse\nend", go(0), cut("a b", ("ask", op("<", var("a"), var("b"))), TO_END, TO_END))
        self.tells("while a\nend", go(0), cut("a", ("ask", var("a")), go(0), TO_END))

    def test_sets_and_gives_are_no_cuts(self):
        self.tells("set x 1\nset y x\ngive (+ x y)",
                   to_give(add(var("x"), var("y")), ("x", num(1)), ("y", var("x"))))
        self.assertEqual(self.numbers("set x 1\nread y x\nset z y\nwrite z 2\ngive z"),
                         [("read", "y", var("x")), ("write", var("z"), num(2))])

    def test_an_if_or_while_is_ahead_of_those_in_it(self):
        text = """read a 0
        if 1
          read a 2
          while 3
            read a 4
            set b 1
          end
          read a 5
        else
          if 6
          else
            read a 7
          end
          read a 8
        end
        while 9
          if 10
            read a 11
          else
          end
        end
        read a 12"""
        asks = (1, 3, 6, 9, 10)
        self.assertEqual(self.numbers(text),
                         [("ask", num(n)) if n in asks else ("read", "a", num(n)) for n in range(13)])

    def test_also_those_behind_a_give(self):
        self.tells("give a\nread x b\nset y x\nwrite y c\ngive d", to_give(var("a")),
                   cut("b c d", ("read", "x", var("b")), go(1, ("y", var("x")))),
                   cut("c d y", ("write", var("y"), var("c")), to_give(var("d"))))
        self.tells("if a\n give 1\n read x b\nelse\n give 2\nend\nwrite c x", go(0),
                   cut("a", ("ask", var("a")), to_give(num(1)), to_give(num(2))),
                   cut("b c", ("read", "x", var("b")), go(2)),
                   cut("c x", ("write", var("c"), var("x")), TO_END))
        self.tells("while a\n give b\n write c d\nend\ngive e", go(0),
                   cut("a b e", ("ask", var("a")), to_give(var("b")), to_give(var("e"))),
                   cut("a b c d e", ("write", var("c"), var("d")), go(0)))

    def test_alike_statements_are_cuts_each(self):
        self.tells("write 1 2\nwrite 1 2\nwrite 1 2", go(0), cut("", ("write", num(1), num(2)), go(1)),
                   cut("", ("write", num(1), num(2)), go(2)), cut("", ("write", num(1), num(2)), TO_END))


class ParamsTest(MakerTest):
    def test_sorted_and_each_once(self):
        self.assertEqual(self.params("write c a\nwrite (+ b longname) (+ c a)"), ["a b c longname", "a b c longname"])

    def test_just_what_is_used_ahead(self):
        self.assertEqual(self.params("read x a\nread y b\nwrite x y\ngive x"), ["a b", "b x", "x y"])

    def test_what_the_deed_puts_into_is_no_param(self):
        self.assertEqual(self.params("read x 1\nwrite x 1"), ["", "x"])
        self.assertEqual(self.params("call x f\nwrite x 1"), ["", "x"])
        self.assertEqual(self.params("read x x\nwrite x 1"), ["x", "x"])
        self.assertEqual(self.params("call x f x\nwrite x 1"), ["x", "x"])

    def test_a_defs_params_that_nothing_uses_are_none(self):
        self.assertEqual(self.part("read x b\ngive x", "abc")[3][0][0], ("b",))

    def test_of_a_while_at_its_asking(self):
        self.assertEqual(self.params("while a\n write b 1\nend\ngive c"), ["a b c", "a b c"])
        self.assertEqual(self.params("set a 1\nwhile a\n read a 5\nend"), ["a", ""])
        self.assertEqual(self.params("while a\n set b 1\n write b 2\nend"), ["a", "a b"])

    def test_what_is_used_once_round_is_handed_on_in_the_body(self):
        self.assertEqual(self.params("while 1\n write 0 x\n read x 1\nend"), ["x", "x", ""])
        self.assertEqual(self.params("while a\n write 0 0\n while b\n  write 0 1\n end\n write c 2\nend\ngive d"),
                         ["a b c d"] * 5)
        self.assertEqual(self.params("while 1\n while 1\n  write 0 1\n end\n write 0 x\n read x y\nend"),
                         ["x y", "x y", "x y", "x y", "y"])

    def test_of_both_bodies(self):
        self.assertEqual(self.params("if c\n write a 1\nelse\n write b 2\nend\ngive d"), ["a b c d", "a d", "b d"])

    def test_none_of_what_is_behind_a_give(self):
        self.assertEqual(self.params("read x a\ngive x\nwrite b c"), ["a", "b c"])

    def test_the_terms_of_a_set_that_is_left_out_count(self):
        self.tells("read x 1\nset y z\ngive x", go(0), cut("z", ("read", "x", num(1)), to_give(var("x"))))
        self.tells("write 1 2\nset y z\nset y a", go(0), cut("a z", ("write", num(1), num(2)), TO_END))


class WaysTest(MakerTest):
    def test_two_of_an_ask_the_first_where_it_is_not_0(self):
        self.tells("if c\n set x 1\nelse\n set x 2\nend\ngive x", go(0),
                   cut("c", ("ask", var("c")), to_give(var("x"), ("x", num(1))), to_give(var("x"), ("x", num(2)))))
        self.tells("while c\n set c 0\nend\nset x 2\ngive x", go(0),
                   cut("c", ("ask", var("c")), go(0, ("c", num(0))), to_give(var("x"), ("x", num(2)))))

    def test_from_the_end_of_an_ifs_body_behind_the_if(self):
        self.tells("if 1\n write 1 1\n set x 1\nelse\n write 2 2\n set x 2\nend\nset y x\nwrite x y", go(0),
                   cut("", ("ask", num(1)), go(1), go(2)),
                   cut("", ("write", num(1), num(1)), go(3, ("x", num(1)), ("y", var("x")))),
                   cut("", ("write", num(2), num(2)), go(3, ("x", num(2)), ("y", var("x")))),
                   cut("x y", ("write", var("x"), var("y")), TO_END))

    def test_of_an_if_within_an_if(self):
        self.tells("if 1\n if 2\n  write 3 3\n else\n end\nelse\nend\nwrite 4 4", go(0),
                   cut("", ("ask", num(1)), go(1), go(3)), cut("", ("ask", num(2)), go(2), go(3)),
                   cut("", ("write", num(3), num(3)), go(3)), cut("", ("write", num(4), num(4)), TO_END))

    def test_from_the_end_of_a_whiles_body_to_its_asking(self):
        self.tells("while 1\n write 2 2\n set x 1\nend\ngive x", go(0),
                   cut("x", ("ask", num(1)), go(1), to_give(var("x"))),
                   cut("", ("write", num(2), num(2)), go(0, ("x", num(1)))))

    def test_of_whiles_within_one_another(self):
        self.tells("while 1\n set a 1\n while 2\n  write 3 a\n  set a b\n end\n set b 4\nend\nwrite 5 5", go(0),
                   cut("b", ("ask", num(1)), go(1, ("a", num(1))), go(3)),
                   cut("a b", ("ask", num(2)), go(2), go(0, ("b", num(4)))),
                   cut("a b", ("write", num(3), var("a")), go(1, ("a", var("b")))),
                   cut("", ("write", num(5), num(5)), TO_END))

    def test_of_a_while_that_ends_a_body(self):
        self.tells("if 1\n while 2\n end\nelse\nend\nset x 1\ngive x", go(0),
                   cut("", ("ask", num(1)), go(1), to_give(var("x"), ("x", num(1)))),
                   cut("", ("ask", num(2)), go(1), to_give(var("x"), ("x", num(1)))))
        self.tells("while 1\n if 2\n else\n end\nend", go(0),
                   cut("", ("ask", num(1)), go(1), TO_END), cut("", ("ask", num(2)), go(0), go(0)))

    def test_one_of_others(self):
        for text in ("read x 1", "write 1 2", "call x main"):
            self.assertEqual([len(ways) for _, _, ways in self.part(text)[3]], [1])

    def test_to_a_give(self):
        self.tells("read x 1\nset y (+ x 1)\ngive y\nset z 1\nwrite 1 z", go(0),
                   cut("", ("read", "x", num(1)), to_give(var("y"), ("y", add(var("x"), num(1))))),
                   cut("z", ("write", num(1), var("z")), TO_END))

    def test_at_the_end_0_is_given(self):
        self.tells("read x 1\nset y x", go(0), cut("", ("read", "x", num(1)), TO_END))
        self.tells("", TO_END)


class SetsTest(MakerTest):
    def test_in_order(self):
        self.tells("set b 1\nset a 2\nset c b\ngive (+ a (+ b c))",
                   to_give(add(var("a"), add(var("b"), var("c"))), ("b", num(1)), ("a", num(2)), ("c", var("b"))))

    def test_left_out_where_nothing_uses_them(self):
        self.tells("set x 1", TO_END)
        self.tells("set x 1\nset x 2\ngive x", to_give(var("x"), ("x", num(2))))
        self.tells("set x 1\nread x 5\ngive x", go(0), cut("", ("read", "x", num(5)), to_give(var("x"))))
        self.tells("set x 1\ncall x main\ngive x", go(0), cut("", ("call", "x", "main", ()), to_give(var("x"))))
        self.tells("read x 1\nset x 2\nset y x\ngive 1", go(0),
                   cut("", ("read", "x", num(1)), to_give(num(1), ("x", num(2)))))

    def test_kept_where_a_set_that_is_left_out_uses_them(self):
        self.tells("set a 1\nset b a", to_give(num(0), ("a", num(1))))
        self.tells("set a 1\nset b a\nset c b\ngive 5", to_give(num(5), ("a", num(1)), ("b", var("a"))))

    def test_kept_where_its_own_variable_is_put_into_again_by_itself(self):
        self.tells("set x 1\nset x (+ x 1)\ngive x",
                   to_give(var("x"), ("x", num(1)), ("x", add(var("x"), num(1)))))
        self.tells("set x 1\nread x x\ngive x", go(0, ("x", num(1))),
                   cut("x", ("read", "x", var("x")), to_give(var("x"))))

    def test_kept_where_one_body_alone_uses_them(self):
        self.tells("set x 1\nset y 2\nif c\n give x\nelse\nend\ngive 3", go(0, ("x", num(1))),
                   cut("c x", ("ask", var("c")), to_give(var("x")), to_give(num(3))))

    def test_kept_where_they_are_used_once_round(self):
        self.tells("while a\n write 0 x\n set x y\n set z 1\nend", go(0),
                   cut("a x y", ("ask", var("a")), go(1), TO_END),
                   cut("a x y", ("write", num(0), var("x")), go(0, ("x", var("y")))))
        self.tells("while a\n set z 1\n set x z\n set a x\nend", go(0),
                   cut("a", ("ask", var("a")), go(0, ("z", num(1)), ("x", var("z")), ("a", var("x"))), TO_END))

    def test_alike_sets_are_kept_each(self):
        same = ("x", add(var("x"), var("x")))
        self.tells("set x (+ x x)\nset x (+ x x)\ngive x", to_give(var("x"), same, same))

    def test_behind_a_give(self):
        self.tells("give a\nset x 1\nset y 2\nwrite 0 x", to_give(var("a")),
                   cut("x", ("write", num(0), var("x")), TO_END))

    def test_of_the_one_same_set_on_two_ways(self):
        self.tells("if c\n give x\nelse\n set x 1\nend\nset y x\ngive y", go(0),
                   cut("c x", ("ask", var("c")), to_give(var("x")),
                       to_give(var("y"), ("x", num(1)), ("y", var("x")))))


class Ways:
    """The cut program once more, by going forward from each cut."""

    def __init__(self, name, params, body):
        self.names = sorted({name for statement in self.all_in(body) for name in self.names_of(statement)})
        self.body = numbered(body, itertools.count())
        self.name, self.params = name, params

    def all_in(self, body):
        for statement in body:
            yield statement
            if statement[0] in ("if", "while"):
                for inner in statement[2:]:
                    yield from self.all_in(inner)

    def names_of(self, statement):
        terms, put, _ = passed(statement, ())
        return [name for term in terms for name in variables(term)] + [name for name in [put] if name]

    def way(self, todo):
        sets = []
        while todo and todo[0][0] == "set":
            name, term = todo[0][1:]
            todo = todo[1:]
            if is_used_ahead(name, todo):
                sets.append((name, term))
        if not todo:
            return tuple(sets), ("give", ("num", 0))
        return tuple(sets), (todo[0] if todo[0][0] == "give" else ("go", todo[0][-1]))

    def cuts(self, body, rest):
        for at, statement in enumerate(body):
            behind = body[at + 1:] + rest
            if statement[0] in ("set", "give"):
                continue
            params = tuple([name for name in self.names if is_used_ahead(name, (statement,) + behind)])
            asks = statement[0] in ("if", "while")
            ways = tuple([self.way(todo) for todo in passed(statement, behind)[2]])
            yield statement[-1], (params, ("ask", statement[1]) if asks else statement[:-1], ways)
            inside = (statement,) + behind if statement[0] == "while" else behind
            for inner in statement[2:-1] if asks else ():
                yield from self.cuts(inner, inside)

    def part(self):
        cuts = list(self.cuts(self.body, ()))
        assert [n for n, _ in cuts] == list(range(len(cuts)))
        return self.name, self.params, self.way(self.body), tuple([one for _, one in cuts])


class ManyTest(unittest.TestCase):
    def test_made_programs_beside_going_forward(self):
        many = 0
        for program in made_programs(300):
            told = made(program)
            self.assertEqual(told, tuple([Ways(*one).part() for one in program]))
            many = max([many] + [len(cuts) for _, _, _, cuts in told])
        self.assertGreater(many, 12)

    def test_at_the_bounds(self):
        names = "abcdefghijkl"
        statements = [set_to(names[k % 12], add(var(names[k * 5 % 12]), num(k))) for k in range(20)]
        statements += [read_to(names[k], var(names[k + 1])) for k in range(8)]
        nest = (write(var("a"), var("l")),)
        for k in range(5):
            nest = (loop(var(names[k]), *nest),) if k % 2 else (when(var(names[k]), nest),)
        body = tuple(statements) + nest + (call("x", "main", *[var(name) for name in names[:6]]), give(var("x")))
        program = tuple([("main" if k == 0 else "f" + names[k], tuple(names[:6]), body) for k in range(8)])
        told = made(program)
        self.assertEqual(told, tuple([Ways(*one).part() for one in program]))
        self.assertEqual([len(cuts) for _, _, _, cuts in told], [8 + 6 + 1] * 8)

    def test_deeper_than_the_bound(self):
        body = (write(num(0), var("x")), set_to("x", var("y")))
        for depth in range(30):
            body = (loop(var("a"), *body),) if depth % 2 else (when(var("b"), body),)
        told = made((("main", (), body),))
        self.assertEqual(told, (Ways("main", (), body).part(),))
        self.assertEqual(len(told[0][3]), 31)


if __name__ == "__main__":
    unittest.main()

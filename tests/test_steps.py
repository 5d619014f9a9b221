import unittest

from againbook.errors import BookError, NoName
from againbook.maker import made
from againbook.reader import read
from againbook.steps import deed_at, first_of, onward, part_of
from programs import TOP


def part_made(text, params=""):
    return made(read("def main " + params + "\n" + text + "\nend"))[0]


def chain(answer, steps=()):
    return ("f", (), tuple(steps), answer)


class StepsTest(unittest.TestCase):
    def same(self, told, expected):
        self.assertEqual(told, expected)
        self.assertEqual(repr(told), repr(expected))

    def asked(self, function, part, *handed):
        before = repr((part, handed))
        told = function(part, *handed)
        self.same(function(part, *handed), told)
        self.assertEqual(repr((part, handed)), before)
        return told

    def leads(self, part, step, expected):
        self.same(self.asked(onward, part, step), expected)

    def begins(self, part, args, expected):
        self.same(self.asked(first_of, part, args), expected)

    def needs(self, part, n, held, expected):
        self.same(self.asked(deed_at, part, n, held), expected)


class PartOfTest(StepsTest):
    parts = made(read("def f a\nend\ndef g\n give 1\nend\ndef main\n call x f 2\nend"))

    def test_the_part_of_the_name(self):
        for part, f in zip(self.parts, ("f", "g", "main")):
            self.same(self.asked(part_of, self.parts, f), part)

    def test_no_such_name(self):
        for f in ("a", "x", "none", "fg"):
            with self.assertRaises(NoName) as taken:
                part_of(self.parts, f)
            self.assertEqual(taken.exception.name, f)
            self.assertIsInstance(taken.exception, BookError)

    def test_of_no_parts(self):
        with self.assertRaises(NoName) as taken:
            part_of((), "main")
        self.assertEqual(taken.exception.name, "main")


class DeedAtTest(StepsTest):
    def test_a_read(self):
        part = part_made("read x (+ a b)")
        self.needs(part, 0, (3, 4), ("read", 7))
        self.needs(part, 0, (0, 0), ("read", 0))
        self.needs(part, 0, (TOP - 1, 2), ("read", 1))

    def test_a_write(self):
        part = part_made("write (+ b 1) (* a b)")
        self.needs(part, 0, (3, 4), ("write", 5, 12))
        self.needs(part_made("write 7 8"), 0, (), ("write", 7, 8))

    def test_the_numbers_by_the_params_names_and_not_in_the_terms_order(self):
        self.needs(part_made("write z a"), 0, (1, 2), ("write", 2, 1))
        self.needs(part_made("call x f c b a b"), 0, (1, 2, 3), ("call", "f", (3, 2, 1, 2)))

    def test_a_call(self):
        self.needs(part_made("call x f"), 0, (), ("call", "f", ()))
        self.needs(part_made("call x g 5 (- a 1)"), 0, (0,), ("call", "g", (5, TOP - 1)))

    def test_an_ask_is_1_where_its_term_is_not_0(self):
        for text in ("if (- a 3)\nelse\nend", "while (- a 3)\nend"):
            part = part_made(text)
            self.needs(part, 0, (3,), ("ask", 0))
            self.needs(part, 0, (4,), ("ask", 1))
            self.needs(part, 0, (5,), ("ask", 1))
            self.needs(part, 0, (2,), ("ask", 1))
            self.needs(part, 0, (TOP - 1,), ("ask", 1))
        self.needs(part_made("if (< a 2)\nelse\nend"), 0, (1,), ("ask", 1))
        self.needs(part_made("if 0\nelse\nend"), 0, (), ("ask", 0))

    def test_of_each_cut(self):
        part = part_made("read x a\nif x\n write x a\nelse\n call y f x\nend")
        self.needs(part, 0, (4,), ("read", 4))
        self.needs(part, 1, (4, 9), ("ask", 1))
        self.needs(part, 2, (4, 9), ("write", 9, 4))
        self.needs(part, 3, (9,), ("call", "f", (9,)))

    def test_params_that_the_deed_does_not_need(self):
        part = part_made("read x b\nwrite a (+ c x)")
        self.needs(part, 0, (1, 2, 3), ("read", 2))


class FirstOfTest(StepsTest):
    def test_to_a_give(self):
        self.begins(part_made("give 7"), (), ("give", 7))
        self.begins(part_made(""), (), ("give", 0))
        self.begins(part_made("", "a b"), (1, 2), ("give", 0))
        self.begins(part_made("give (- a b)", "b a"), (1, 5), ("give", 4))
        self.begins(part_made("give x", "a"), (5,), ("give", 0))

    def test_to_a_cut(self):
        self.begins(part_made("read x a\ngive b", "b c a"), (1, 2, 3), ("go", 0, (3, 1)))
        self.begins(part_made("read x 1"), (), ("go", 0, ()))

    def test_0_of_what_nothing_was_put_into(self):
        self.begins(part_made("write a (+ b c)", "b"), (5,), ("go", 0, (0, 5, 0)))

    def test_sets_each_seeing_those_ahead_of_it(self):
        part = part_made("set a (+ a 1)\nset b a\nset a (* b 10)\nset b (+ a b)\nwrite a b", "a")
        self.begins(part, (2,), ("go", 0, (30, 33)))
        self.begins(part_made("set x a\nset a b\nset b x\ngive (- a b)", "a b"), (3, 10), ("give", 7))
        self.begins(part_made("set x y\nset y 5\ngive (+ x y)"), (), ("give", 5))

    def test_past_cuts_that_no_way_comes_to(self):
        self.begins(part_made("give 3\nread x 1\nwrite x 2"), (), ("give", 3))


class OnwardTest(StepsTest):
    def test_behind_a_read_what_was_found(self):
        part = part_made("read x 1\nwrite x a\ngive x")
        self.leads(part, (0, (5,), ("read", 1, 8)), ("go", 1, (5, 8)))
        self.leads(part, (0, (5,), ("read", 1, 0)), ("go", 1, (5, 0)))
        self.leads(part, (1, (5, 8), ("write", 8, 5)), ("give", 8))

    def test_a_read_into_the_variable_of_its_own_term(self):
        part = part_made("read x x\ngive x")
        self.leads(part, (0, (5,), ("read", 5, 9)), ("give", 9))

    def test_behind_a_call_the_answer(self):
        part = part_made("call x f a\nset b (+ x a)\nwrite x b\ngive b")
        inner = (0, (), ("read", 1, 77))
        self.leads(part, (0, (5,), ("call", chain(8))), ("go", 1, (13, 8)))
        self.leads(part, (0, (5,), ("call", chain(9, [inner, inner]))), ("go", 1, (14, 9)))

    def test_a_call_into_the_variable_of_its_own_terms(self):
        part = part_made("call x f x\ngive (+ x 1)")
        self.leads(part, (0, (5,), ("call", chain(TOP - 1))), ("give", 0))

    def test_a_find_that_nothing_uses(self):
        self.leads(part_made("read x 1\ngive a"), (0, (5,), ("read", 1, 8)), ("give", 5))
        self.leads(part_made("call x f\nset x 3\ngive x"), (0, (), ("call", chain(8))), ("give", 3))

    def test_behind_a_write(self):
        part = part_made("write a b\nset c (+ a b)\nread x c\ngive (+ x c)")
        self.leads(part, (0, (2, 3), ("write", 2, 3)), ("go", 1, (5,)))

    def test_behind_an_if_the_way_of_what_it_found(self):
        part = part_made("if a\n set x 1\n write x a\nelse\n set x 2\n give x\nend")
        self.leads(part, (0, (7,), ("ask", 1)), ("go", 1, (7, 1)))
        self.leads(part, (0, (0,), ("ask", 0)), ("give", 2))

    def test_behind_an_ask_whatever_its_term_comes_to(self):
        part = part_made("if a\n give 10\nelse\n give 20\nend")
        for a in (0, 1, 2, TOP - 1):
            self.leads(part, (0, (a,), ("ask", 1)), ("give", 10))
            self.leads(part, (0, (a,), ("ask", 0)), ("give", 20))
        part = part_made("while a\n set a (- a 1)\nend\ngive b")
        for a in (1, 2):
            self.leads(part, (0, (a, 9), ("ask", 1)), ("go", 0, (a - 1, 9)))
            self.leads(part, (0, (a, 9), ("ask", 0)), ("give", 9))
        self.leads(part, (0, (0, 9), ("ask", 1)), ("go", 0, (TOP - 1, 9)))

    def test_round_a_while(self):
        part = part_made("while a\n write 0 a\n set a (- a 1)\nend\ngive b")
        self.leads(part, (0, (3, 9), ("ask", 1)), ("go", 1, (3, 9)))
        self.leads(part, (1, (3, 9), ("write", 0, 3)), ("go", 0, (2, 9)))

    def test_sets_each_seeing_those_ahead_of_it(self):
        part = part_made("read a 1\nset a (+ a 1)\nset b (+ a b)\nset a b\nwrite a b")
        self.leads(part, (0, (10,), ("read", 1, 4)), ("go", 1, (15, 15)))

    def test_0_of_what_nothing_was_put_into(self):
        part = part_made("if a\n set x 5\nelse\n read y 1\nend\nwrite x y\ngive (+ z x)", "a")
        self.begins(part, (1,), ("go", 0, (1, 0, 0, 0)))
        self.leads(part, (0, (1, 0, 0, 0), ("ask", 1)), ("go", 2, (5, 0, 0)))
        self.leads(part, (0, (0, 0, 0, 0), ("ask", 0)), ("go", 1, (0, 0)))
        self.leads(part, (1, (0, 0), ("read", 1, 6)), ("go", 2, (0, 6, 0)))

    def test_at_the_end_0_is_given(self):
        self.leads(part_made("read x 1"), (0, (), ("read", 1, 8)), ("give", 0))
        self.leads(part_made("call x f"), (0, (), ("call", chain(8))), ("give", 0))

    def test_the_same_whatever_was_ahead_of_it(self):
        part = part_made("if a\n set x 3\nelse\n read x 1\nend\nwrite x 0\ngive x", "a")
        by_set = onward(part, (0, (1,) + (0,) * (len(part[3][0][0]) - 1), ("ask", 1)))
        by_read = onward(part, (1, (), ("read", 1, 3)))
        self.same(by_set, by_read)


if __name__ == "__main__":
    unittest.main()

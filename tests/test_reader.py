import unittest

from againbook.errors import NoText
from againbook.reader import read
from againbook.writer import shown
from programs import (
    TOP, call, give, loop, made_def, made_programs, num, one_def, op, read_to, set_to, var, when, write,
)

ROWS = [
    "def main a b",
    "  set x (+ a 1)",
    "  if (< x b)",
    "    while x",
    "      read x x",
    "    end",
    "  else",
    "    write x 2",
    "  end",
    "  call y other x",
    "  give y",
    "end",
    "def other c",
    "  give c",
    "end",
]

PROGRAM = (
    ("main", ("a", "b"), (
        ("set", "x", ("op", "+", ("var", "a"), ("num", 1))),
        ("if", ("op", "<", ("var", "x"), ("var", "b")),
         (("while", ("var", "x"), (("read", "x", ("var", "x")),)),),
         (("write", ("var", "x"), ("num", 2)),)),
        ("call", "y", "other", (("var", "x"),)),
        ("give", ("var", "y")),
    )),
    ("other", ("c",), (("give", ("var", "c")),)),
)


def kinds(thing):
    """The thing's shape with each value's class, so that a list in a tuple's place, or a truth, is seen."""
    if isinstance(thing, (tuple, list)):
        return (type(thing), [kinds(inner) for inner in thing])
    return type(thing)


class Reading(unittest.TestCase):
    def is_read(self, program, text):
        told = read(text)
        self.assertEqual(told, program)
        self.assertEqual(kinds(told), kinds(program))
        self.assertEqual(read(text), program)

    def body_read(self, body, rows):
        self.is_read(one_def(*body), "\n".join(["def main"] + rows + ["end"]))

    def refused(self, line, text):
        for _ in range(2):
            with self.assertRaises(NoText, msg=text) as taken:
                read(text)
            self.assertEqual(taken.exception.line, line, text)
            self.assertIs(type(taken.exception.line), int)


class ReadTest(Reading):
    def test_the_program_without_defs(self):
        for text in ("", " ", "     ", "\n", "\n\n\n", "  \n \n\n   ", " \n"):
            with self.subTest(text=text):
                self.is_read((), text)

    def test_a_whole_program(self):
        self.is_read(PROGRAM, "\n".join(ROWS))

    def test_defs(self):
        self.is_read((made_def("f", ()),), "def f\nend")
        self.is_read((made_def("f", ("a",)), made_def("abcdefgh", ("c", "b", "zzzzzzzz"))),
                     "def f a\nend\ndef abcdefgh c b zzzzzzzz\nend")

    def test_each_kind_of_statement(self):
        self.body_read([set_to("x", num(1))], ["set x 1"])
        self.body_read([read_to("x", var("y"))], ["read x y"])
        self.body_read([write(var("x"), num(0))], ["write x 0"])
        self.body_read([call("x", "f")], ["call x f"])
        self.body_read([call("x", "f", num(1), op("-", var("x"), num(2)), var("b"))], ["call x f 1 (- x 2) b"])
        self.body_read([when(var("x"), [])], ["if x", "else", "end"])
        self.body_read([when(num(1), [give(num(2))], [give(num(3)), give(num(4))])],
                       ["if 1", "give 2", "else", "give 3", "give 4", "end"])
        self.body_read([loop(var("x"))], ["while x", "end"])
        self.body_read([loop(num(1), give(num(2)), give(num(3))), give(num(4))],
                       ["while 1", "give 2", "give 3", "end", "give 4"])

    def test_terms(self):
        self.body_read([give(num(TOP - 1))], ["give 999999999999999999"])
        for sign in "+-*/<=":
            self.body_read([give(op(sign, var("a"), num(12)))], ["give (" + sign + " a 12)"])
        self.body_read([give(op("+", op("*", var("a"), num(2)), op("/", num(7), op("-", var("b"), num(0)))))],
                       ["give (+ (* a 2) (/ 7 (- b 0)))"])
        self.body_read([write(op("+", num(1), num(2)), op("+", num(3), num(4)))], ["write (+ 1 2) (+ 3 4)"])

    def test_words_that_only_look_like_others(self):
        self.body_read([set_to("sets", var("ends"))], ["set sets ends"])
        self.body_read([call("defs", "elses", var("whiles"), var("gives"))], ["call defs elses whiles gives"])

    def test_more_blanks_between_words(self):
        self.is_read(PROGRAM, "\n".join(ROWS).replace(" ", "    "))
        self.body_read([set_to("x", op("+", num(1), num(2)))], ["set   x  (+    1 2)"])

    def test_no_blanks_and_more_at_the_rows_ends(self):
        self.is_read(PROGRAM, "\n".join([row.strip() for row in ROWS]))
        self.is_read(PROGRAM, "\n".join(["       " + row + "   " for row in ROWS]))
        self.is_read(PROGRAM, "\n".join([row + " " for row in ROWS]))

    def test_none_and_more_beside_brackets(self):
        first = op("+", op("*", num(1), num(2)), num(3))
        second = op("<", num(4), op("=", num(5), num(6)))
        for row in ("write (+ (* 1 2) 3) (< 4 (= 5 6))", "write(+(* 1 2)3)(< 4(= 5 6))",
                    "write ( + ( * 1 2 ) 3 ) ( < 4 ( = 5 6 ) )", "  write  (  +(  *  1  2  )3  )(< 4  (= 5 6)  )  "):
            with self.subTest(row=row):
                self.body_read([write(first, second)], [row])
        self.body_read([set_to("x", op("+", num(1), num(2)))], ["set x(+ 1 2)"])
        self.body_read([call("x", "f", op("+", num(1), num(2)), var("a"), op("-", num(3), num(4)))],
                       ["call x f(+ 1 2)a(- 3 4)"])

    def test_empty_rows_anywhere(self):
        self.is_read(PROGRAM, "\n\n" + "\n\n".join(ROWS) + "\n\n")
        self.is_read(PROGRAM, "   \n" + "\n  \n\n".join(ROWS) + "\n ")
        self.is_read(PROGRAM, "\n".join(ROWS) + "\n")

    def test_programs_that_are_not_sound(self):
        self.is_read((made_def("f", ("a", "a"), call("x", "none", num(1))), made_def("f", ())),
                     "def f a a\ncall x none 1\nend\ndef f\nend")

    def test_beyond_the_bounds(self):
        text = "(+ 1 " * 60 + "x" + ")" * 60
        term = var("x")
        for _ in range(60):
            term = op("+", num(1), term)
        self.body_read([give(term)], ["give " + text])
        statement = give(num(0))
        for _ in range(60):
            statement = loop(num(1), statement)
        self.body_read([statement], ["while 1"] * 60 + ["give 0"] + ["end"] * 60)


class WrittenAndReadTest(Reading):
    def test_what_is_written_is_read_to_the_same(self):
        for seed, program in enumerate(made_programs(150)):
            with self.subTest(seed=seed):
                self.is_read(program, shown(program))

    def test_what_is_read_is_written_as_it_was(self):
        self.assertEqual(shown(read("\n".join(ROWS))), "\n".join(ROWS))
        self.assertEqual(shown(read("")), "")

    def test_blanks_and_empty_rows_change_nothing(self):
        for seed, program in enumerate(made_programs(40)):
            text = shown(program)
            with self.subTest(seed=seed):
                self.is_read(program, text.replace(" ", "  ").replace("\n", " \n \n\n "))
                self.is_read(program, text.replace("(", " ( ").replace(")", " ) "))
                self.is_read(program, text.replace(" (", "(").replace(") ", ")"))

    def test_programs_that_are_not_sound(self):
        for program in ((made_def("f", ()), made_def("f", ())), (made_def("f", ("a", "b", "a")),),
                        one_def(call("x", "none")), one_def(call("x", "main", num(1)))):
            with self.subTest(program=program):
                self.is_read(program, shown(program))


class RowsTest(Reading):
    """Rows of a program left out, told twice, and put in the next one's place: the line, 0 where it is a program."""

    def tells(self, line, rows):
        text = "\n".join(rows)
        with self.subTest(text=text):
            if line:
                self.refused(line, text)
            else:
                self.assertEqual([row.strip() for row in shown(read(text)).split("\n")], [row.strip() for row in rows])

    def test_left_out(self):
        lines = [1, 0, 6, 5, 0, 6, 8, 0, 12, 0, 0, 12, 13, 0, 15]
        for at, line in enumerate(lines):
            self.tells(line, ROWS[:at] + ROWS[at + 1:])

    def test_told_twice(self):
        lines = [2, 0, 13, 8, 0, 7, 8, 0, 11, 0, 0, 13, 14, 0, 16]
        for at, line in enumerate(lines):
            self.tells(line, ROWS[:at] + [ROWS[at]] + ROWS[at:])

    def test_put_in_the_next_ones_place(self):
        lines = [1, 0, 6, 0, 0, 6, 0, 0, 0, 0, 12, 12, 13, 15]
        for at, line in enumerate(lines):
            self.tells(line, ROWS[:at] + [ROWS[at + 1], ROWS[at]] + ROWS[at + 2:])

    def test_cut_off(self):
        for many in range(1, len(ROWS)):
            self.tells(0 if many == 12 else many + 1, ROWS[:many])

    def test_alone(self):
        for row in ROWS:
            self.tells(2 if row.startswith("def") else 1, [row])

    def test_rows_behind_a_defs_end(self):
        for row in ("end", "else", "set x 1", "read x 1", "write 1 2", "call x f", "give 1", "if 1", "while 1"):
            self.tells(3, ["def f", "end", row])
            self.tells(3, ["def f", "end", row, "def g", "end"])

    def test_else(self):
        self.tells(2, ["def f", "else", "end"])
        self.tells(3, ["def f", "while 1", "else", "end", "end"])
        self.tells(4, ["def f", "if 1", "else", "else", "end", "end"])
        self.tells(5, ["def f", "if 1", "else", "give 1", "else", "end", "end"])
        self.tells(5, ["def f", "if 1", "else", "end", "else", "end"])
        self.tells(4, ["def f", "if 1", "while 1", "else", "end", "end"])
        self.tells(7, ["def f", "if 1", "else", "if 2", "else", "end", "else", "end", "end"])

    def test_an_if_without_an_else(self):
        self.tells(3, ["def f", "if 1", "end", "end"])
        self.tells(4, ["def f", "if 1", "give 1", "end", "end"])
        self.tells(6, ["def f", "if 1", "if 2", "else", "end", "end", "end"])

    def test_def_within_a_def(self):
        self.tells(2, ["def f", "def g", "end", "end"])
        self.tells(3, ["def f", "while 1", "def g", "end", "end", "end"])
        self.tells(4, ["def f", "if 1", "else", "def g", "end", "end", "end"])


class LineTest(Reading):
    def test_empty_rows_are_counted(self):
        self.refused(2, "\nend")
        self.refused(4, "\n  \n\ngive 1")
        self.refused(5, "def f\n\n\n\nelse\nend")
        self.refused(6, "def f\n\nend\n\n\n set x 1\n\n")

    def test_where_rows_are_lacking(self):
        self.refused(2, "def f")
        self.refused(3, "def f\n")
        self.refused(5, "def f\n\n  \n")
        self.refused(4, "\n\ndef f")
        self.refused(4, "def f\nif 1\nelse")
        self.refused(3, "def f\nif 1")
        self.refused(4, "def f\nwhile 1\nend")

    def test_the_first_of_several(self):
        self.refused(2, "def f\nelse\nelse\ngive\nend\nend")
        self.refused(1, "give\ndef\nnone")
        self.refused(3, "def f\nwhile 1\ngive 01\nelse")


class WrongRowsTest(Reading):
    def wrong(self, rows):
        for row in rows:
            with self.subTest(row=row):
                self.refused(3, "def f\n\n" + row + "\nend")
                self.refused(4, "def f\nif 1\nelse\n    " + row + "\nend\nend")
                self.refused(1, row)
                self.refused(3, "def f\nend\n" + row)

    def test_no_words_of_a_row(self):
        self.wrong(["x", "1", "sets x 1", "Give 1", "GIVE 1", "gives 1", "x 1", "set: x 1", "return 1", "+ 1 2",
                    "def1 f",
                    "# give 1", "give1", "for x", "(+ 1 2)", ".", "ende", "Else", "end;", "el se", "e nd"])

    def test_too_few_words(self):
        self.wrong(["set", "set x", "read", "read x", "write", "write 1", "call", "call x", "give", "if", "while"])

    def test_too_many_words(self):
        self.wrong(["set x 1 2", "set x y 2", "read x 1 2", "write 1 2 3", "give 1 2", "if 1 2", "while 1 2", "end 1",
                    "end end", "end x", "end if", "give 1 end", "give (+ 1 2) 3", "set x 1 set y 2"])

    def test_else_with_more_words(self):
        for row in ("else 1", "else else", "else x", "else if 1", "else (", "else )"):
            self.refused(3, "def f\nif 1\n" + row + "\nend\nend")

    def test_end_with_more_words(self):
        for row in ("end 1", "end f", "end (", "end )", "end ()"):
            self.refused(2, "def f\n" + row)

    def test_names_that_are_none(self):
        self.wrong(["set 1 1", "set X 1", "set abcdefghi 1", "set end 1", "set (x) 1", "set (+ 1 2) 1", "set + 1",
                    "set x1 1", "set a_b 1", "set a-b 1", "read if 1", "read 0 1", "read Xx 1", "read aaaaaaaaa 1",
                    "call 1 f", "call x 1", "call x F", "call end f", "call x end", "call X f", "call x ff2",
                    "call x (f)",
                    "call (x) f", "call abcdefghi f", "call x abcdefghi", "call x (+ 1 2)", "call x f(", "call x )f"])

    def test_defs_that_are_none(self):
        for row in ("def", "def 1", "def F", "def abcdefghi", "def end", "def def", "def (f)", "def f 1", "def f A",
                    "def f abcdefghi", "def f a end", "def f if a", "def f (a)", "def f a (", "def f a )",
                    "def f (+ a b)",
                    "def f a, b", "def f:", "def f()", "def f +"):
            with self.subTest(row=row):
                self.refused(1, row + "\nend")
                self.refused(4, "def g\nend\n\n" + row + "\nend")

    def test_variables_that_are_none(self):
        for word in ("A", "aB", "abcdefghi", "a1", "1a", "a_b", "a-b", "a.b", "'a'", "def", "set", "read", "write",
                     "call",
                     "if", "else", "while", "give", "end", "a,", "-a", "#", "$", "a\"", "\\", "~", "\u00e4"):
            self.wrong(["give " + word, "give (+ 1 " + word + ")", "give (+ " + word + " 1)", "call x f 1 " + word,
                        "set x " + word, "read x " + word, "write " + word + " 1", "write 1 " + word, "if " + word,
                        "while " + word])

    def test_numbers_that_are_none(self):
        for word in ("00", "01", "007", "0" * 18, "1" * 19, "1" + "0" * 18, "-1", "+1", "1.0", "1_0", "1e3", "0x1",
                     "1,",
                     "\u0661", "1\u00b2"):
            self.wrong(["give " + word, "give (+ 1 " + word + ")", "give (+ " + word + " 1)", "set x " + word])

    def test_brackets_too_many_or_too_few(self):
        self.wrong(["give (", "give )", "give ()", "give ( )", "give )(", "give (1)", "give (x)", "give (+ 1 2",
                    "give + 1 2)", "give (+ 1 2))", "give ((+ 1 2)", "give ((+ 1 2))", "give (+ (1) 2)",
                    "give (+ 1 (2))",
                    "give (+ 1 (+ 2 3)", "give (+ 1 + 2 3)", "give (+ 1 (+ 2 3)))", "give 1)", "give (1", "give )1",
                    "give +)1 2(", "give ) + 1 2 (", "give (+ 1 2)(", "give (+ 1 2))(", "give (+ 1)2", "give (+ (1 2))",
                    "(give 1)", "( give 1 )", "(give) 1", "set x (+ 1 2", "write (+ 1 2 3)", "write (+ 1 2 3 4)",
                    "write (+ 1 (+ 2 3)", "call x f (", "call x f )", "call x f ()", "call x f (+ 1 2",
                    "call x f + 1 2)",
                    "call x f (1 2)", "call x f (1) (2)", "(", ")", "()"])

    def test_ops_of_too_few_or_too_many_terms(self):
        self.wrong(["give (+)", "give (+ 1)", "give (+ 1 2 3)", "give (- x)", "give (* 1 2 3 4)", "give (+ (+ 1) 2)",
                    "give (+ (+ 1 2 3))"])

    def test_signs_in_wrong_places(self):
        self.wrong(["give +", "give + 1 2", "give 1 + 2", "give (1 + 2)", "give (1 2 +)", "give (+ + 1)",
                    "give (+ 1 +)",
                    "give (+ + +)", "give (+ - 1 2)", "set x = 1", "set x =", "write + -", "write 1 -", "call x f +",
                    "call x f 1 < 2", "call x f = 1", "if <", "if x < 1", "while x - 1", "read x *"])

    def test_signs_that_are_none(self):
        for sign in (">", "==", "<=", ">=", "!=", "++", "**", "//", "+-", "?", "&", "|", "^", "!", "~", ",", ".",
                     "plus",
                     "1", "x", "%", "[", "{", "@", ";", "`", "$", "\"", "'", "+1"):
            self.wrong(["give (" + sign + " 1 2)", "give (+ 1 (" + sign + " 1 2))"])

    def test_signs_of_which_a_text_is_not_made(self):
        self.wrong(["give\t1", "\tgive 1", "give 1\t", "give 1\r", "give 1\x0b", "give 1\x0c", "give\u00a01",
                    "give 1\u2028",
                    "\t", "give (+\t1 2)"])

    def test_thousands_of_brackets_and_blocks(self):
        for words in ("(+ 1 " * 3900, "(+ " * 6000, "(" * 19000, ")" * 19000, "(+ 1 " * 2000 + "1" + ")" * 1999,
                      "()" * 9000):
            self.refused(2, "def f\ngive " + words + "\nend")
        self.refused(2802, "def f\n" + "\n".join(["while 1", "if 1"] * 1400))
        self.refused(2802, "def f\n" + "\n".join(["while 1"] * 2800) + "\nelse")


if __name__ == "__main__":
    unittest.main()

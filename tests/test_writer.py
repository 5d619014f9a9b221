import unittest

from againbook.writer import shown
from programs import TOP, call, give, loop, made_def, num, one_def, op, read_to, set_to, var, when, write


class WriterTest(unittest.TestCase):
    def written(self, rows, program):
        self.assertEqual(shown(program), "\n".join(rows))
        self.assertEqual(shown(program), "\n".join(rows))

    def body_written(self, rows, *body):
        self.written(["def main"] + rows + ["end"], one_def(*body))

    def test_no_defs(self):
        self.assertEqual(shown(()), "")

    def test_a_def_without_params_and_statements(self):
        self.written(["def main", "end"], (made_def("main", ()),))

    def test_params(self):
        self.written(["def f a", "end"], (made_def("f", ("a",)),))
        self.written(["def f b a abcdefgh", "end"], (made_def("f", ("b", "a", "abcdefgh")),))

    def test_more_defs_in_their_order(self):
        program = (made_def("b", ("x",), give(var("x"))), made_def("a", ()), made_def("c", (), give(num(1))))
        self.written(["def b x", "  give x", "end", "def a", "end", "def c", "  give 1", "end"], program)

    def test_set(self):
        self.body_written(["  set x 1"], set_to("x", num(1)))
        self.body_written(["  set x (+ y 2)"], set_to("x", op("+", var("y"), num(2))))

    def test_read(self):
        self.body_written(["  read x (* 2 y)"], read_to("x", op("*", num(2), var("y"))))

    def test_write(self):
        self.body_written(["  write 3 x"], write(num(3), var("x")))
        self.body_written(["  write (- a 1) (/ b c)"],
                          write(op("-", var("a"), num(1)), op("/", var("b"), var("c"))))

    def test_call(self):
        self.body_written(["  call x f"], call("x", "f"))
        self.body_written(["  call x f 1"], call("x", "f", num(1)))
        self.body_written(["  call f x a (< b 2) 0"],
                          call("f", "x", var("a"), op("<", var("b"), num(2)), num(0)))

    def test_give(self):
        self.body_written(["  give (= x 999999999999999999)"], give(op("=", var("x"), num(TOP - 1))))

    def test_statements_in_their_order(self):
        self.body_written(["  give 1", "  set x 2", "  write x 3"],
                          give(num(1)), set_to("x", num(2)), write(var("x"), num(3)))

    def test_if(self):
        self.body_written(
            ["  if x", "    set a 1", "    set b 2", "  else", "    set c 3", "  end", "  give a"],
            when(var("x"), [set_to("a", num(1)), set_to("b", num(2))], [set_to("c", num(3))]), give(var("a")))

    def test_if_without_statements(self):
        self.body_written(["  if 1", "  else", "  end"], when(num(1), []))
        self.body_written(["  if 1", "  else", "    give 2", "  end"], when(num(1), [], [give(num(2))]))
        self.body_written(["  if 1", "    give 2", "  else", "  end"], when(num(1), [give(num(2))]))

    def test_while(self):
        self.body_written(["  while (< i 9)", "    set i (+ i 1)", "    write i i", "  end", "  give i"],
                          loop(op("<", var("i"), num(9)), set_to("i", op("+", var("i"), num(1))),
                               write(var("i"), var("i"))),
                          give(var("i")))

    def test_while_without_statements(self):
        self.body_written(["  while x", "  end"], loop(var("x")))

    def test_ifs_and_whiles_within_one_another(self):
        inner = when(var("c"), [loop(var("d"), give(num(1)))], [when(var("e"), [], [give(num(2))]), give(num(3))])
        self.body_written([
            "  while a",
            "    if b",
            "      if c",
            "        while d",
            "          give 1",
            "        end",
            "      else",
            "        if e",
            "        else",
            "          give 2",
            "        end",
            "        give 3",
            "      end",
            "    else",
            "      while f",
            "      end",
            "    end",
            "    give 4",
            "  end",
            "  give 5",
        ], loop(var("a"), when(var("b"), [inner], [loop(var("f"))]), give(num(4))), give(num(5)))

    def test_each_def_begins_at_the_rows_begin(self):
        program = (made_def("f", (), loop(num(1), loop(num(2)))), made_def("g", (), loop(num(3))))
        self.written(["def f", "  while 1", "    while 2", "    end", "  end", "end",
                      "def g", "  while 3", "  end", "end"], program)

    def test_nests_five_deep_and_beyond(self):
        for depth in (5, 60):
            with self.subTest(depth=depth):
                inner = give(num(0))
                rows = ["  " * (depth + 1) + "give 0"]
                for level in range(depth, 0, -1):
                    inner = loop(num(level), inner)
                    rows = ["  " * level + "while " + str(level)] + rows + ["  " * level + "end"]
                self.body_written(rows, inner)

    def test_a_program_that_is_not_sound(self):
        program = (made_def("f", ("a", "a"), call("x", "none", num(1))), made_def("f", ()))
        self.written(["def f a a", "  call x none 1", "end", "def f", "end"], program)


if __name__ == "__main__":
    unittest.main()

import unittest

from againbook.errors import NoCount, NoName, Twice
from againbook.sound import sound
from programs import call, give, loop, made_def, made_programs, num, one_def, read_to, set_to, var, when, write


class SoundTest(unittest.TestCase):
    def is_sound(self, program):
        self.assertIs(sound(program), True)
        self.assertIs(sound(program), True)

    def refused(self, refusal, name, program):
        for _ in range(2):
            with self.assertRaises(refusal) as taken:
                sound(program)
            self.assertEqual(taken.exception.name, name)

    def test_no_defs_and_no_statements(self):
        self.is_sound(())
        self.is_sound((made_def("f", ()),))

    def test_sound_programs(self):
        for seed, program in enumerate(made_programs(60)):
            with self.subTest(seed=seed):
                self.is_sound(program)

    def test_calls_of_earlier_and_later_defs_and_of_itself(self):
        self.is_sound((
            made_def("f", ("a",), call("x", "g"), call("x", "f", num(1)), call("x", "h", num(1), var("y"))),
            made_def("g", (), call("x", "f", num(2)), call("x", "g")),
            made_def("h", ("a", "b"), call("x", "g"), call("x", "f", var("x"))),
        ))

    def test_the_same_params_in_two_defs(self):
        self.is_sound((made_def("f", ("a", "b")), made_def("g", ("b", "a"))))

    def test_a_param_or_variable_may_be_called_like_a_def(self):
        self.is_sound((made_def("f", ("f", "g")), made_def("g", (), set_to("f", num(1)), call("g", "g"))))

    def test_variables_that_nothing_was_put_into_and_put_into_twice(self):
        self.is_sound(one_def(set_to("x", var("y")), set_to("x", num(1)), read_to("x", num(1)), write(var("z"),
                                                                                                      num(1))))

    def test_a_defs_name_twice(self):
        self.refused(Twice, "f", (made_def("f", ()), made_def("f", ("a",))))
        self.refused(Twice, "f", (made_def("f", ()), made_def("g", ()), made_def("f", ())))

    def test_of_two_names_twice_the_one_that_comes_again_first(self):
        self.refused(Twice, "g", tuple([made_def(name, ()) for name in ("f", "g", "g", "f")]))
        self.refused(Twice, "f", tuple([made_def(name, ()) for name in ("g", "f", "f", "f", "g")]))

    def test_a_defs_name_three_times(self):
        self.refused(Twice, "f", tuple([made_def(name, ()) for name in ("f", "f", "f")]))

    def test_a_param_twice(self):
        self.refused(Twice, "a", (made_def("f", ("a", "a")),))
        self.refused(Twice, "a", (made_def("f", ("a", "b", "a")),))
        self.refused(Twice, "b", (made_def("f", ("a", "b", "b", "a")),))
        self.refused(Twice, "c", (made_def("f", ("c",)), made_def("g", ("c", "b", "c"))))

    def test_no_name(self):
        self.refused(NoName, "g", (made_def("f", (), call("x", "g")),))
        self.refused(NoName, "x", (made_def("f", ("x",), call("x", "x", var("x"))),))
        self.refused(NoName, "ff", (made_def("f", (), call("f", "ff")),))

    def test_no_count(self):
        self.refused(NoCount, "f", (made_def("f", (), call("x", "f", num(1))),))
        self.refused(NoCount, "f", (made_def("f", ("a",), call("x", "f")),))
        self.refused(NoCount, "g", (made_def("f", (), call("x", "g", num(1))), made_def("g", ("a", "b"))))
        self.refused(NoCount, "g", (made_def("f", (), call("x", "g", num(1), num(1), num(1))),
                                    made_def("g", ("a", "b"))))
        self.refused(NoCount, "g", (made_def("g", ("a",)), made_def("f", (), call("x", "g"))))

    def test_calls_within_ifs_and_whiles(self):
        wrong = call("x", "none")
        for body in ([when(num(0), [wrong])], [when(num(1), [], [wrong])], [loop(num(0), wrong)],
                     [loop(num(0), when(num(0), [], [loop(num(0), give(num(1)), wrong)]))], [give(num(0)), wrong]):
            with self.subTest(body=body):
                self.refused(NoName, "none", one_def(*body))

    def test_a_wrong_call_sixty_deep(self):
        statement = call("x", "none")
        for _ in range(60):
            statement = loop(num(1), statement)
        self.refused(NoName, "none", one_def(statement))


class OrderTest(unittest.TestCase):
    def first(self, refusal, name, *defs):
        with self.assertRaises(refusal) as taken:
            sound(defs)
        self.assertEqual(taken.exception.name, name)

    def test_the_defs_names_ahead_of_all_else(self):
        self.first(Twice, "f", made_def("f", ("a", "a"), call("x", "none")), made_def("g", ()), made_def("f", ()))

    def test_params_ahead_of_calls_of_the_same_def(self):
        self.first(Twice, "a", made_def("f", ("a", "a"), call("x", "none")))
        self.first(Twice, "a", made_def("f", ("a", "a"), call("x", "f")))

    def test_calls_ahead_of_params_of_the_next_def(self):
        self.first(NoName, "none", made_def("f", (), call("x", "none")), made_def("g", ("a", "a")))
        self.first(NoCount, "g", made_def("f", (), call("x", "g")), made_def("g", ("a", "a")))

    def test_def_by_def(self):
        self.first(NoCount, "f", made_def("f", (), call("x", "f", num(1))), made_def("g", (), call("x", "none")))
        self.first(NoName, "none", made_def("g", (), call("x", "none")), made_def("f", (), call("x", "f", num(1))))

    def test_call_by_call(self):
        self.first(NoCount, "f", made_def("f", (), call("x", "f", num(1)), call("x", "none")))
        self.first(NoName, "none", made_def("f", (), call("x", "none"), call("x", "f", num(1))))
        self.first(NoName, "one", made_def("f", (), call("x", "f"), call("x", "one"), call("x", "two")))

    def test_of_one_call_the_name_ahead_of_the_count(self):
        self.first(NoName, "none", made_def("f", ("a",), call("x", "none", num(1), num(2))))

    def test_the_order_of_the_text(self):
        one = call("x", "one")
        two = call("x", "two")
        three = call("x", "three")
        fine = give(num(1))
        for body in ([when(num(1), [one], [two]), three], [when(num(1), [fine], [one]), two],
                     [loop(num(1), fine, one), two], [loop(num(1), when(num(1), [], [one]), two), three],
                     [one, loop(num(1), two)], [one, when(num(1), [two], [three])],
                     [when(num(1), [loop(num(1), one), two], [three])], [when(num(1), [one, two])]):
            with self.subTest(body=body):
                self.first(NoName, "one", made_def("f", (), *body))


if __name__ == "__main__":
    unittest.main()

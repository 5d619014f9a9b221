import unittest

from againbook.ahead import used_ahead
from programs import body_of, is_used_ahead, loop, made_programs, num, set_to, var, when, write


class AheadTest(unittest.TestCase):
    def tells(self, expected, text, behind=()):
        body = body_of(text)
        before = repr(body)
        for order in (list(behind), list(reversed(behind))):
            handed = list(order)
            for _ in range(2):
                told = used_ahead(body, handed)
                self.assertEqual(told, expected.split())
                self.assertIs(type(told), list)
                self.assertEqual(handed, order)
        self.assertEqual(repr(body), before)


class TermsTest(AheadTest):
    def test_the_terms_of_each_statement(self):
        self.tells("a", "set x a")
        self.tells("a", "read x a")
        self.tells("a b", "write a b")
        self.tells("a b c", "call x f a b c")
        self.tells("a", "if a\nelse\nend")
        self.tells("a", "while a\nend")
        self.tells("a", "give a")

    def test_none_without_variables(self):
        for text in ("set x 1", "read x 1", "write 1 2", "call x f", "call x f 1 (+ 1 2)", "if 1\nelse\nend",
                     "while 0\nend", "give 1"):
            self.tells("", text)

    def test_within_ops(self):
        self.tells("a b c", "write (+ c (* 2 a)) (- b a)")
        self.tells("a b c", "call x f (+ c 1) 2 (< b a)")

    def test_sorted_and_each_once(self):
        self.tells("a b c", "write c a\nwrite c b\nwrite (+ a c) (+ b a)")
        self.tells("b longname x xa", "write x longname\nwrite b xa")
        self.tells("a b", "if b\n write a b\nelse\n write b a\nend\nwhile a\n write b a\nend", "ab")

    def test_an_answers_variable_and_a_defs_name_are_no_use(self):
        self.tells("", "call x f")
        self.tells("x", "call y f x")


class PutIntoTest(AheadTest):
    def test_put_into_ahead_of_its_use(self):
        self.tells("", "set x 1\nwrite 0 x")
        self.tells("", "read x 1\nwrite 0 x")
        self.tells("", "call x f\nwrite 0 x")
        self.tells("", "set x 1\ngive x")
        self.tells("", "set x 1\nset y x\ncall z f x y\nread x z\nwrite x y")

    def test_put_into_behind_its_use(self):
        self.tells("x", "write 0 x\nset x 1")
        self.tells("x", "write 0 x\nread x 1")
        self.tells("x", "write 0 x\ncall x f")

    def test_used_in_the_term_that_is_put_into_it(self):
        self.tells("x", "set x (+ x 1)")
        self.tells("x", "read x x")
        self.tells("x", "call x f 1 x")
        self.tells("x", "set x (+ x 1)\nwrite 0 x")

    def test_those_behind(self):
        self.tells("a b", "write 1 2", "ab")
        self.tells("b", "set a 1", "ab")
        self.tells("b", "read a 1", "ab")
        self.tells("b", "call a f", "ab")
        self.tells("a b", "set c 1", "ab")
        self.tells("a b c", "write c a", "ab")
        self.tells("b", "set a b", "a")

    def test_a_write_puts_into_no_variable(self):
        self.tells("a", "write a 1", "a")
        self.tells("a", "write 1 a", "a")

    def test_the_terms_of_a_set_that_nothing_uses_count(self):
        self.tells("a", "set x a")
        self.tells("a", "set x a\nset x 1\ngive x")

    def test_by_other_variables(self):
        self.tells("a", "set b a\nset c b\nset d c\ngive d")
        self.tells("d", "set c d\nset b c\nset a b\ngive a", "abcd")


class IfTest(AheadTest):
    def test_both_bodies(self):
        self.tells("a b c", "if c\n write 0 a\nelse\n write 0 b\nend")
        self.tells("a c", "if c\n write 0 a\nelse\nend")
        self.tells("b c", "if c\nelse\n write 0 b\nend")

    def test_whatever_the_numbers_are(self):
        self.tells("a b", "if 0\n write 0 a\nelse\n write 0 b\nend")
        self.tells("a b", "if 1\n write 0 a\nelse\n write 0 b\nend")

    def test_put_into_by_one_body(self):
        self.tells("x", "if 1\n set x 1\nelse\nend\nwrite 0 x")
        self.tells("x", "if 1\nelse\n set x 1\nend\nwrite 0 x")
        self.tells("x", "if 1\nelse\n set x 1\nend", "x")

    def test_put_into_by_both_bodies(self):
        self.tells("", "if 1\n set x 1\nelse\n read x 1\nend\nwrite 0 x")
        self.tells("", "if 1\n call x f\nelse\n set x 1\nend", "x")

    def test_the_asking_is_ahead_of_the_bodies(self):
        self.tells("x", "if x\n set x 1\nelse\n set x 2\nend")
        self.tells("", "set x 1\nif x\n write 0 x\nelse\n write x 0\nend")

    def test_those_behind(self):
        self.tells("a b c", "if c\nelse\nend", "ab")
        self.tells("a b", "if 1\n set a 1\nelse\n set b 1\nend", "ab")

    def test_within_one_another(self):
        self.tells("a b", "if a\n if b\n  set x 1\n else\n  set x 2\n end\nelse\n set x 3\nend\ngive x")
        self.tells("a b x", "if a\n if b\n  set x 1\n else\n end\nelse\n set x 3\nend\ngive x")


class WhileTest(AheadTest):
    def test_its_body_or_what_is_behind(self):
        self.tells("a b c", "while c\n write 0 a\nend\nwrite 0 b")
        self.tells("a b c", "while c\n write 0 a\nend", "b")
        self.tells("a b", "while 0\n write 0 a\nend\nwrite 0 b")
        self.tells("a b", "while 1\n write 0 a\nend\nwrite 0 b")

    def test_put_into_in_its_body_alone(self):
        self.tells("x", "while 1\n set x 1\nend\nwrite 0 x")
        self.tells("x", "while 1\n set x 1\nend", "x")

    def test_the_asking_is_ahead_of_the_body(self):
        self.tells("x", "while x\n set x 0\nend")
        self.tells("", "set x 1\nwhile x\n read x x\nend")

    def test_put_into_in_its_body_ahead_of_the_use(self):
        self.tells("", "while 1\n set x 1\n write 0 x\nend")

    def test_used_in_its_body_ahead_of_the_putting(self):
        self.tells("x", "while 1\n write 0 x\n set x 1\nend")
        self.tells("x y", "while 1\n set y x\n set x y\n write 0 y\n set z y\nend\ngive y")

    def test_round_and_round_whiles_within_one_another(self):
        self.tells("x y", "while 1\n while 1\n  write 0 x\n end\n set x y\nend")
        self.tells("y", "while 1\n set x y\n while 1\n  write 0 x\n end\nend")
        self.tells("a b c x",
                   "while a\n while b\n  while c\n   write 0 x\n   set x 1\n  end\n  set x 2\n end\n set x 3\nend")
        self.tells("a b c",
                   "while a\n set x 1\n while b\n  while c\n   write 0 x\n   set x 1\n  end\n  set x 2\n end\nend")
        self.tells("a", "set x 1\nwhile a\n set b x\n while b\n  set c b\n  while c\n   read x c\n   set c 0\n  end\n"
                   "  set b 0\n end\nend")
        self.tells("p q r", "while 1\n set r q\n set q p\n while r\n  write 0 r\n  set r 0\n end\nend\ngive r")

    def test_with_ifs_within(self):
        self.tells("x", "while 1\n if 1\n  set x 1\n else\n end\n write 0 x\nend")
        self.tells("", "while 1\n if 1\n  set x 1\n else\n  set x 2\n end\n write 0 x\nend")
        self.tells("x", "if 1\n while 1\n  set x 1\n end\nelse\n set x 1\nend\ngive x")


class WaysEndTest(AheadTest):
    def test_at_a_give(self):
        self.tells("a", "give a\nwrite b c\ngive d")
        self.tells("a", "give a", "bc")
        self.tells("", "give 1", "bc")

    def test_at_a_give_in_an_if(self):
        self.tells("a b", "if 1\n give a\nelse\nend", "b")
        self.tells("a b", "if 1\nelse\n give a\nend", "b")
        self.tells("a b", "if 1\n give a\nelse\n give b\nend\nwrite c c", "d")
        self.tells("b", "if 1\n set a 1\n give a\nelse\n set a b\nend", "a")

    def test_at_a_give_in_a_while(self):
        self.tells("a b", "while 1\n give a\nend", "b")
        self.tells("b", "while 1\n give 1\n write 0 a\nend", "b")
        self.tells("b x", "while 1\n give x\n set x 1\nend", "b")

    def test_at_the_end(self):
        self.tells("", "set a 1\nwrite 1 2")
        self.tells("c", "set a 1\nwrite 1 2", "ac")


class BehindTest(AheadTest):
    def test_a_body_without_statements_tells_those_behind_sorted(self):
        self.tells("", "")
        self.tells("a", "", "a")
        self.tells("a b c", "", "bca")
        names = ["longname"] + list("lkjihgfedcba")
        self.assertEqual(used_ahead((), names), sorted(names))

    def test_thirteen_behind(self):
        names = list("mlkjihgfedcba")
        self.tells("a b c d e f g h i j k l m", "write a b", names)
        self.tells("b c d e f g h i j k l m", "set a m", names)
        self.tells("a b c d e f g h i j k l m z", "while z\n set a 1\nend", names)

    def test_the_list_told_is_the_askers_own(self):
        for text in ("", "write 1 2", "set x 1", "write 0 a", "if 1\nelse\nend", "while 1\nend"):
            body = body_of(text)
            behind = ["b", "a"]
            told = used_ahead(body, behind)
            told.append("c")
            self.assertEqual(behind, ["b", "a"])
            again = used_ahead(body, behind)
            self.assertEqual(again, ["a", "b"])
            behind.append("d")
            self.assertEqual(again, ["a", "b"])


class ManyTest(unittest.TestCase):
    def test_made_bodies_beside_each_way(self):
        names = ["a", "b", "c", "x", "longname", "z"]
        unlike = set()
        for program in made_programs(300):
            for _, _, body in program:
                for behind in ([], ["x", "a"], ["z"], ["longname", "c", "b", "a"]):
                    told = used_ahead(body, behind)
                    expected = sorted([name for name in names if is_used_ahead(name, body, behind)])
                    self.assertEqual(told, expected, (body, behind))
                    unlike.add(tuple(told))
        self.assertGreater(len(unlike), 20)

    def test_deeper_than_the_bound(self):
        body = (write(num(0), var("x")), set_to("x", num(1)))
        for depth in range(30):
            name = "abcdefghij"[depth % 10]
            body = (loop(var(name), *body),) if depth % 2 else (when(var(name), body, body),)
        self.assertEqual(used_ahead(body, ["y"]), sorted("abcdefghijxy"))


if __name__ == "__main__":
    unittest.main()

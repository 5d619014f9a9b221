import unittest

from againbook.terms import names_in, term_text, worth
from programs import TOP, num, op, var


def nested(depth, leaf):
    term = leaf
    for level in range(depth):
        term = op("+", num(level), term)
    return term


class WorthTest(unittest.TestCase):
    def comes_to(self, expected, term, held):
        answer = worth(term, held)
        self.assertEqual(answer, expected)
        self.assertIs(type(answer), int)
        self.assertEqual(worth(term, held), expected)

    def joins(self, sign, rows):
        for left, right, expected in rows:
            with self.subTest(sign=sign, left=left, right=right):
                self.comes_to(expected, op(sign, num(left), num(right)), {})
                self.comes_to(expected, op(sign, var("a"), var("b")), {"a": left, "b": right})

    def test_numbers(self):
        for number in (0, 1, 7, TOP - 1):
            with self.subTest(number=number):
                self.comes_to(number, num(number), {"a": 3})

    def test_variables(self):
        held = {"a": 5, "b": 0, "abcdefgh": TOP - 1}
        self.comes_to(5, var("a"), held)
        self.comes_to(0, var("b"), held)
        self.comes_to(TOP - 1, var("abcdefgh"), held)

    def test_a_variable_that_held_lacks_is_0(self):
        self.comes_to(0, var("a"), {})
        self.comes_to(0, var("a"), {"b": 4, "aa": 5})
        self.comes_to(4, op("+", var("a"), var("b")), {"b": 4})

    def test_sums(self):
        self.joins("+", [
            (0, 0, 0), (2, 3, 5), (TOP - 2, 1, TOP - 1),
            (TOP - 1, 1, 0), (TOP - 1, 2, 1), (TOP - 1, TOP - 1, TOP - 2),
        ])

    def test_differences(self):
        self.joins("-", [
            (0, 0, 0), (5, 3, 2), (3, 3, 0), (TOP - 1, 0, TOP - 1),
            (0, 1, TOP - 1), (3, 5, TOP - 2), (0, TOP - 1, 1),
        ])

    def test_products(self):
        self.joins("*", [
            (0, 7, 0), (7, 0, 0), (6, 7, 42), (10 ** 9, 10 ** 9, 0), (10 ** 9 + 1, 10 ** 9 + 1, 2 * 10 ** 9 + 1),
            (TOP - 1, TOP - 1, 1), (TOP - 1, 2, TOP - 2),
        ])

    def test_quotients(self):
        self.joins("/", [
            (6, 3, 2), (7, 3, 2), (8, 3, 2), (2, 3, 0), (0, 3, 0), (TOP - 1, 1, TOP - 1),
            (TOP - 1, 2, 499999999999999999), (TOP - 1, TOP - 2, 1), (TOP - 1, 10, 99999999999999999),
        ])

    def test_quotients_by_0(self):
        self.joins("/", [(0, 0, 0), (1, 0, 0), (TOP - 1, 0, 0)])
        self.comes_to(0, op("/", num(9), var("a")), {})
        self.comes_to(0, op("/", num(9), op("-", num(4), num(4))), {})

    def test_less(self):
        self.joins("<", [(2, 3, 1), (3, 3, 0), (4, 3, 0), (0, 0, 0), (0, TOP - 1, 1), (TOP - 1, 0, 0)])

    def test_alike(self):
        self.joins("=", [(2, 3, 0), (3, 3, 1), (4, 3, 0), (0, 0, 1), (TOP - 1, TOP - 1, 1), (TOP - 1, TOP - 2, 0)])

    def test_ops_within_one_another(self):
        term = op("-", op("*", var("a"), num(3)), op("/", num(20), op("+", var("b"), num(1))))
        self.comes_to(11, term, {"a": 5, "b": 4})
        self.comes_to(TOP - 20, term, {})
        self.comes_to(1, op("<", op("-", num(2), num(2)), op("=", num(1), num(1))), {})

    def test_the_rest_is_taken_at_each_op(self):
        self.comes_to(0, op("/", op("+", num(TOP - 1), num(1)), num(2)), {})
        self.comes_to(1, op("<", op("+", num(TOP - 1), num(1)), num(1)), {})
        self.comes_to(0, op("<", op("-", num(0), num(1)), num(0)), {})

    def test_six_deep_and_beyond(self):
        for depth in (6, 20):
            with self.subTest(depth=depth):
                self.comes_to(sum(range(depth)) + 9, nested(depth, var("a")), {"a": 9})

    def test_what_is_handed_in_stays(self):
        held = {"a": 5}
        worth(op("+", var("b"), op("*", var("a"), var("c"))), held)
        self.assertEqual(held, {"a": 5})

    def test_asked_again_with_the_dict_changed(self):
        held = {"a": 5}
        term = op("+", var("a"), var("b"))
        self.assertEqual(worth(term, held), 5)
        held["a"] = 6
        held["b"] = 10
        self.assertEqual(worth(term, held), 16)
        held.clear()
        self.assertEqual(worth(term, held), 0)


class NamesInTest(unittest.TestCase):
    def has(self, expected, term):
        names = names_in(term)
        self.assertEqual(names, expected)
        self.assertIs(type(names), list)

    def test_none(self):
        self.has([], num(0))
        self.has([], op("+", num(1), op("*", num(2), num(3))))

    def test_one(self):
        self.has(["a"], var("a"))
        self.has(["abcdefgh"], op("<", num(1), var("abcdefgh")))
        self.has(["a"], op("<", var("a"), num(1)))

    def test_sorted(self):
        self.has(["a", "b", "c"], op("+", var("c"), op("-", var("a"), var("b"))))
        self.has(["a", "aa", "ab", "b"], op("+", op("=", var("b"), var("ab")), op("-", var("aa"), var("a"))))

    def test_each_once(self):
        self.has(["a"], op("+", var("a"), var("a")))
        self.has(["a", "b"], op("+", op("*", var("b"), var("a")), op("/", var("a"), op("=", var("b"), num(1)))))

    def test_six_deep_and_beyond(self):
        for depth in (6, 20):
            with self.subTest(depth=depth):
                self.has(["z"], nested(depth, var("z")))

    def test_a_list_told_is_the_askers_own(self):
        for term in (num(1), var("a"), op("+", num(1), num(2)), op("+", var("b"), var("a"))):
            with self.subTest(term=term):
                told = names_in(term)
                before = list(told)
                told.append("other")
                told.reverse()
                self.assertEqual(names_in(term), before)


class TermTextTest(unittest.TestCase):
    def written(self, expected, term):
        self.assertEqual(term_text(term), expected)
        self.assertEqual(term_text(term), expected)

    def test_numbers(self):
        self.written("0", num(0))
        self.written("7", num(7))
        self.written("10", num(10))
        self.written("9" * 18, num(TOP - 1))

    def test_variables(self):
        self.written("a", var("a"))
        self.written("abcdefgh", var("abcdefgh"))

    def test_ops(self):
        for sign in "+-*/<=":
            with self.subTest(sign=sign):
                self.written("(" + sign + " a 12)", op(sign, var("a"), num(12)))

    def test_ops_within_one_another(self):
        self.written("(+ (* a 2) b)", op("+", op("*", var("a"), num(2)), var("b")))
        self.written("(< b (/ 7 a))", op("<", var("b"), op("/", num(7), var("a"))))
        self.written("(= (- x y) (- y x))", op("=", op("-", var("x"), var("y")), op("-", var("y"), var("x"))))

    def test_six_deep(self):
        self.written("(+ 5 (+ 4 (+ 3 (+ 2 (+ 1 (+ 0 x))))))", nested(6, var("x")))


if __name__ == "__main__":
    unittest.main()

import itertools
import unittest

from againbook.books import left, paths, seen, step_at
from againbook.errors import BookError, NoStep
from programs import TOP, Busy, steps_by_path


def chain(*whats):
    """A chain with steps that did this, each of a number of its own."""
    return ("main", (), tuple([(n, (), what) for n, what in enumerate(whats)]), 0)


def call(*whats):
    return ("call", chain(*whats))


def write(cell, number=1):
    return ("write", cell, number)


def read(cell):
    return ("read", cell, 0)


ASK = ("ask", 1)
EMPTY = chain()
FLAT = chain(read(1), write(2), ASK)
NESTED = chain(write(1, 5), call(read(1), call(write(2, 6), ASK), write(1, 7)), call(), read(2), call(call(read(1))))


class BooksTest(unittest.TestCase):
    def tells(self, expected, function, *handed):
        before = repr(handed)
        for _ in range(2):
            told = function(*handed)
            self.assertEqual(told, expected)
            self.assertEqual(repr(told), repr(expected))
        self.assertEqual(repr(handed), before)

    def refused(self, function, book, path):
        with self.assertRaises(NoStep) as taken:
            function(book, path)
        self.assertIsInstance(taken.exception, BookError)


class PathsTest(BooksTest):
    def test_of_a_chain_without_steps(self):
        self.tells([], paths, EMPTY)

    def test_of_a_chain_without_calls(self):
        self.tells([(0,), (1,), (2,)], paths, FLAT)

    def test_a_call_ahead_of_those_within_it(self):
        self.tells([(0,), (1,), (1, 0), (1, 1), (1, 1, 0), (1, 1, 1), (1, 2), (2,), (3,), (4,), (4, 0), (4, 0, 0)],
                   paths, NESTED)

    def test_sorted_by_numbers_and_not_by_figures(self):
        self.tells([(n,) for n in range(120)], paths, chain(*[ASK] * 120))
        self.tells([(0,)] + [(0, n) for n in range(12)] + [(1,)], paths, chain(call(*[ASK] * 12), ASK))

    def test_fifteen_deep(self):
        book = chain(ASK)
        for _ in range(15):
            book = chain(ASK, ("call", book), ASK)
        expected = sorted([(1,) * deep + (n,) for deep in range(15) for n in range(3)] + [(1,) * 15 + (0,)])
        self.tells(expected, paths, book)
        self.tells((0, (), ASK), step_at, book, (1,) * 15 + (0,))
        self.refused(step_at, book, (1,) * 16)

    def test_the_list_is_the_askers_own(self):
        told = paths(FLAT)
        told.clear()
        self.tells([(0,), (1,), (2,)], paths, FLAT)


class StepAtTest(BooksTest):
    def test_of_the_books_chain(self):
        self.tells((0, (), read(1)), step_at, FLAT, (0,))
        self.tells((2, (), ASK), step_at, FLAT, (2,))

    def test_the_whole_step(self):
        step = (7, (3, TOP - 1), ("read", 5, 6))
        self.tells(step, step_at, ("main", (1,), (step,), 9), (0,))

    def test_a_call_with_its_chain(self):
        self.tells((2, (), call()), step_at, NESTED, (2,))

    def test_within_calls_within_calls(self):
        self.tells((0, (), read(1)), step_at, NESTED, (1, 0))
        self.tells((1, (), ASK), step_at, NESTED, (1, 1, 1))
        self.tells((2, (), write(1, 7)), step_at, NESTED, (1, 2))
        self.tells((0, (), read(1)), step_at, NESTED, (4, 0, 0))

    def test_no_numbers(self):
        for book in (EMPTY, FLAT, NESTED):
            self.refused(step_at, book, ())

    def test_numbers_too_great(self):
        for path in ((3,), (4,), (TOP,)):
            self.refused(step_at, FLAT, path)
        for path in ((5,), (1, 3), (1, 1, 2), (2, 0), (4, 1), (4, 0, 1)):
            self.refused(step_at, NESTED, path)
        self.refused(step_at, EMPTY, (0,))

    def test_numbers_below_0(self):
        for path in ((-1,), (-3,), (-5,), (1, -1), (-4, 0), (1, -2, 0), (1, 1, -1), (2, -1)):
            self.refused(step_at, NESTED, path)

    def test_behind_a_step_that_does_not_call(self):
        for path in ((0, 0), (1, 0, 0), (1, 1, 0, 0), (3, 0), (3, 1), (0, -1)):
            self.refused(step_at, NESTED, path)
        for path in ((0, 0), (1, 0), (2, 0), (2, 1)):
            self.refused(step_at, FLAT, path)


class LeftTest(BooksTest):
    def test_none_written(self):
        self.tells({}, left, EMPTY)
        self.tells({}, left, chain(read(1), ASK, call(read(2))))

    def test_each_with_its_last_number(self):
        self.tells({1: 7}, left, chain(write(1, 5), write(1, 9), write(1, 7)))
        self.assertEqual(left(chain(write(1, 5), write(2, 8), write(1, 7), write(2, 0))), {1: 7, 2: 0})

    def test_cells_that_are_written_with_0(self):
        self.tells({0: 0, TOP - 1: TOP - 1}, left, chain(write(0, 0), write(TOP - 1, TOP - 1)))

    def test_a_read_leaves_nothing(self):
        self.tells({1: 5}, left, chain(write(1, 5), ("read", 1, 8), ("read", 2, 9)))

    def test_in_calls_too_in_the_books_order(self):
        self.assertEqual(left(NESTED), {1: 7, 2: 6})
        self.tells({1: 6}, left, chain(call(write(1, 5)), write(1, 6)))
        self.tells({1: 5}, left, chain(write(1, 6), call(write(1, 5))))
        self.tells({1: 4}, left, chain(write(1, 6), call(write(1, 5), call(write(1, 4))), call(ASK)))
        self.tells({1: 5}, left, chain(write(1, 6), call(call(write(1, 4)), write(1, 5))))

    def test_the_dict_is_the_askers_own(self):
        told = left(NESTED)
        told[1] = 100
        told[3] = 100
        self.assertEqual(left(NESTED), {1: 7, 2: 6})


class SeenTest(BooksTest):
    def test_none(self):
        self.tells(None, seen, FLAT, (0,))
        self.tells(None, seen, chain(write(2), read(1), write(1)), (1,))
        self.tells(None, seen, chain(("read", 1, 5), ("read", 1, 5)), (1,))

    def test_the_last_one_ahead(self):
        book = chain(write(1, 5), read(1), write(1, 6), write(2, 7), read(1), write(1, 8), read(2))
        self.tells((0,), seen, book, (1,))
        self.tells((2,), seen, book, (4,))
        self.tells((3,), seen, book, (6,))

    def test_whatever_was_found(self):
        self.tells((0,), seen, chain(write(1, 5), ("read", 1, 9)), (1,))

    def test_in_whichever_chain(self):
        self.tells((0,), seen, NESTED, (1, 0))
        self.tells((1, 1, 0), seen, NESTED, (3,))
        self.tells((1, 2), seen, NESTED, (4, 0, 0))
        self.tells((0, 0), seen, chain(call(write(1), write(2)), call(read(1))), (1, 0))
        self.tells((0,), seen, chain(write(1), call(call(read(1)), write(1))), (1, 0, 0))
        self.tells((0,), seen, chain(write(1), read(1), call(write(1))), (1,))

    def test_behind_more_than_ten_steps(self):
        self.tells((10,), seen, chain(*[write(1, n) for n in range(11)], read(1)), (11,))
        self.tells((8,), seen, chain(*[write(1, n) for n in range(9)], read(1), write(1), write(1)), (9,))

    def test_the_path_of_no_step(self):
        for path in ((), (5,), (-2,), (1, -3), (3, 0), (2, 0), (1, 0, 0)):
            self.refused(seen, NESTED, path)
        self.refused(seen, EMPTY, (0,))

    def test_a_step_that_does_not_read(self):
        for path in ((0,), (1,), (1, 1), (1, 1, 0), (1, 1, 1), (1, 2), (2,), (4,), (4, 0)):
            self.refused(seen, NESTED, path)


class ManyTest(BooksTest):
    def test_beside_the_steps_by_path(self):
        found = {"none": 0, "in its chain": 0, "elsewhere": 0}
        for seed in range(300):
            busy = Busy(seed)
            for book in (busy.book(busy.cells), busy.wild_book()):
                steps = steps_by_path(book)
                order = sorted(steps)
                self.assertEqual(paths(book), order)
                self.assertEqual([step_at(book, path) for path in order], [steps[path] for path in order])
                writes = [path for path in order if steps[path][2][0] == "write"]
                self.assertEqual(left(book), {steps[path][2][1]: steps[path][2][2] for path in writes})
                for path in order:
                    if steps[path][2][0] != "read":
                        self.refused(seen, book, path)
                        continue
                    cell = steps[path][2][1]
                    expected = max([one for one in writes if one < path and steps[one][2][1] == cell], default=None)
                    self.assertEqual(seen(book, path), expected)
                    sort = "none" if expected is None else "in its chain" if expected[:-1] == path[:-1] else "elsewhere"
                    found[sort] += 1
        self.assertGreater(min(found.values()), 100, found)

    def test_all_other_tuples_are_paths_of_no_step(self):
        for book in (EMPTY, FLAT, NESTED):
            steps = steps_by_path(book)
            for many in range(4):
                for path in itertools.product(range(-6, 7), repeat=many):
                    if path in steps:
                        self.assertEqual(step_at(book, path), steps[path])
                    else:
                        self.refused(step_at, book, path)
                        self.refused(seen, book, path)


if __name__ == "__main__":
    unittest.main()

import itertools
import unittest

from againbook.again import again
from againbook.checker import right, true_of
from againbook.errors import TooDeep, TooLong
from againbook.laying import laid
from againbook.maker import made
from againbook.reader import read
from againbook.runner import run
from programs import Busy, are_plain, steps_by_path, told_or_refused

SUM = """
def main n
  while (< i n)
    read x i
    call x double x
    set total (+ total x)
    set i (+ i 1)
  end
  write 100 total
  give total
end
def double a
  write 101 a
  give (* 2 a)
end
"""

# It goes as deep as cell 1 says.
DOWN = """
def main
  read n 1
  call x down n
  give x
end
def down n
  if n
    call x down (- n 1)
    give (+ x 1)
  else
  end
end
"""


def down(n):
    chain = ("down", (0,), ((0, (0,), ("ask", 0)),), 0)
    for k in range(1, n + 1):
        chain = ("down", (k,), ((0, (k,), ("ask", 1)), (1, (k,), ("call", chain))), k)
    return chain


def run_anew(old, new):
    kept, turned, fresh, dropped = laid(old, new)
    return sorted([path for _, path in turned] + fresh)


class AgainTest(unittest.TestCase):
    def told(self, parts, old, cells, most=300):
        """What it tells, once it was laid beside the run from the begin."""
        before = repr((parts, old, cells))
        told = again(parts, old, cells, most)
        self.assertEqual(repr(again(parts, old, cells, most)), repr(told))
        self.assertEqual(repr((parts, old, cells)), before)
        new = run(parts, old[0], old[1], cells, most)
        self.assertEqual(told, (new, run_anew(old, new)))
        self.assertEqual((type(told), type(told[1])), (tuple, list))
        self.assertTrue(are_plain((told[0], tuple(told[1]))))
        return told

    def refused(self, refusal, parts, old, cells, most=300):
        before = repr((parts, old, cells))
        for _ in range(2):
            with self.assertRaises(refusal):
                again(parts, old, cells, most)
        self.assertEqual(repr((parts, old, cells)), before)
        with self.assertRaises(refusal):
            run(parts, old[0], old[1], cells, most)


class ToldTest(AgainTest):
    def setUp(self):
        self.parts = made(read(SUM))
        self.cells = {0: 5, 1: 6, 2: 7}
        self.old = run(self.parts, "main", (3,), self.cells, 300)

    def test_with_nothing_changed(self):
        self.assertEqual(self.told(self.parts, self.old, self.cells), (self.old, []))
        self.assertEqual(self.told(self.parts, self.old, {**self.cells, 50: 9, 101: 4}), (self.old, []))
        self.assertEqual(self.told(self.parts, self.old, {**self.cells, 3: 8}), (self.old, []))

    def test_with_one_cell_changed(self):
        # The last read finds something other, so its call, the asking behind it and the write are other ones.
        new, anew = self.told(self.parts, self.old, {**self.cells, 2: 8})
        self.assertEqual(new[3], 38)
        self.assertEqual(anew, [(7,), (8,), (8, 0), (9,), (10,)])

    def test_what_comes_to_the_same_is_taken_over(self):
        parts = made(read("def main\n read x 1\n set y (< x 5)\n write 2 y\n call z f y\n give z\nend\n"
                          "def f y\n read x 1\n give y\nend"))
        old = run(parts, "main", (), {1: 7}, 300)
        self.assertEqual(self.told(parts, old, {1: 8})[1], [(0,), (2, 0)])
        self.assertEqual(self.told(parts, old, {1: 4})[1], [(0,), (1,), (2,), (2, 0)])

    def test_a_cell_that_the_cells_lack(self):
        self.assertEqual(self.told(self.parts, self.old, {0: 5, 1: 6})[0][3], 22)
        self.assertEqual(self.told(self.parts, self.old, {})[0][3], 0)
        nought = run(self.parts, "main", (3,), {}, 300)
        self.assertEqual(self.told(self.parts, nought, {0: 0}), (nought, []))
        self.assertEqual(self.told(self.parts, nought, self.cells)[0], self.old)

    def test_a_cell_that_the_run_itself_wrote(self):
        parts = made(read("def main\n write 1 5\n read x 1\n call y f\n read z 1\n give (+ x z)\nend\n"
                          "def f\n read a 2\n write 1 a\nend"))
        old = run(parts, "main", (), {1: 9, 2: 4}, 300)
        self.assertEqual(self.told(parts, old, {1: 8, 2: 4}), (old, []))
        self.assertEqual(self.told(parts, old, {1: 9, 2: 3})[1], [(2, 0), (2, 1), (3,)])
        self.assertEqual(self.told(parts, old, {1: 8, 2: 3})[0][3], 8)

    def test_a_write_that_is_gone_is_not_found(self):
        parts = made(read("def main\n read x 1\n if x\n  write 2 7\n else\n end\n read y 2\n give y\nend"))
        old = run(parts, "main", (), {1: 1, 2: 3}, 300)
        new, anew = self.told(parts, old, {1: 0, 2: 3})
        self.assertEqual((new[3], anew), (3, [(0,), (1,), (2,)]))
        self.assertEqual(self.told(parts, new, {1: 1, 2: 3}), (old, [(0,), (1,), (2,), (3,)]))
        self.assertEqual(self.told(parts, old, {1: 0, 2: 7})[1], [(0,), (1,)])

    def test_a_chain_that_is_lent(self):
        parts = made(read("def main\n read p 0\n while p\n  call x f\n  read p p\n end\nend\n"
                          "def f\n read x 50\n call y g\n give x\nend\ndef g\n read x 51\nend"))
        old = run(parts, "main", (), {0: 1, 1: 0, 50: 3, 51: 4}, 300)
        self.assertEqual(self.told(parts, old, {0: 2, 50: 3, 51: 4})[1], [(0,), (1,), (2,), (3,)])
        self.assertEqual(self.told(parts, old, {0: 2, 50: 3, 51: 5})[1], [(0,), (1,), (2,), (2, 1, 0), (3,)])
        self.assertEqual(self.told(parts, old, {0: 2, 2: 3, 50: 3, 51: 4})[1],
                         [(0,), (1,), (2,), (3,), (4,), (5,), (5, 0), (5, 1), (5, 1, 0), (6,)])

    def test_a_call_within_which_alone_something_is_run_anew(self):
        parts = made(read("def main\n call x f\n write 2 x\nend\ndef f\n read a 1\n write 3 a\n give 7\nend"))
        old = run(parts, "main", (), {1: 5}, 300)
        self.assertEqual(self.told(parts, old, {1: 6})[1], [(0, 0), (0, 1)])

    def test_the_paths_are_sorted(self):
        parts = made(read("def main\n call x f\n give x\nend\ndef f\n call x g\n give x\nend\n"
                          "def g\n read x 1\n give x\nend"))
        old = run(parts, "main", (), {1: 5}, 300)
        self.assertEqual(self.told(parts, old, {1: 6})[1], [(0,), (0, 0), (0, 0, 0)])

    def test_without_steps(self):
        parts = made(read("def main a\n give a\nend"))
        self.assertEqual(self.told(parts, ("main", (4,), (), 4), {1: 1}, 0), (("main", (4,), (), 4), []))

    def test_of_each_def(self):
        old = run(self.parts, "double", (4,), {}, 300)
        self.assertEqual(self.told(self.parts, old, {1: 1}), (old, []))
        parts = made(read("def f\n read x 1\n give x\nend\ndef g a\n read x a\n give x\nend"))
        for f, args in (("f", ()), ("g", (1,)), ("g", (2,))):
            old = run(parts, f, args, {1: 5, 2: 6}, 300)
            self.assertEqual(self.told(parts, old, {1: 7, 2: 8})[1], [(0,)])

    def test_what_is_told_is_the_askers_own(self):
        cells = {**self.cells, 2: 8}
        first = again(self.parts, self.old, cells, 300)
        expected = repr(first)
        first[1].clear()
        cells[2] = 9
        self.assertEqual(repr(again(self.parts, self.old, {**self.cells, 2: 8}, 300)), expected)
        self.assertEqual(again(self.parts, self.old, cells, 300)[0][3], 40)

    def test_from_a_right_book_that_is_true_of_no_cells(self):
        parts = made(read("def main\n read x 1\n read y 1\n write 2 y\n read z 2\n give (+ x z)\nend"))
        wild = ("main", (), ((0, (), ("read", 1, 4)), (1, (4,), ("read", 1, 7)), (2, (4, 7), ("write", 2, 7)),
                             (3, (4,), ("read", 2, 9))), 13)
        self.assertTrue(right(parts, wild))
        self.assertEqual(self.told(parts, wild, {1: 4})[1], [(1,), (2,), (3,)])
        self.assertEqual(self.told(parts, wild, {1: 7})[1], [(0,), (1,), (2,), (3,)])
        parts = made(read("def main\n write 2 5\n read z 2\n give z\nend"))
        wild = ("main", (), ((0, (), ("write", 2, 5)), (1, (), ("read", 2, 6))), 6)
        self.assertTrue(right(parts, wild))
        for cells in ({}, {2: 5}, {2: 6}):
            self.assertEqual(self.told(parts, wild, cells)[1], [(1,)])


class RefusedTest(AgainTest):
    def test_too_long(self):
        parts = made(read(SUM))
        for cells in ({}, {1: 5}):
            old = run(parts, "main", (3,), {0: 5}, 300)
            turns = len(steps_by_path(run(parts, "main", (3,), cells, 300)))
            self.told(parts, old, cells, turns)
            for most in range(turns):
                self.refused(TooLong, parts, old, cells, most)

    def test_too_long_with_nothing_changed(self):
        parts = made(read("def main\n read x 1\nend"))
        old = run(parts, "main", (), {}, 300)
        self.refused(TooLong, parts, old, {}, 0)
        self.assertEqual(self.told(parts, old, {}, 1), (old, []))

    def test_too_long_by_what_cells_hold(self):
        parts = made(read("def main\n read n 1\n while (< i n)\n  set i (+ i 1)\n end\n give i\nend"))
        old = run(parts, "main", (), {1: 3}, 300)
        self.assertEqual(self.told(parts, old, {1: 298})[0][3], 298)
        self.refused(TooLong, parts, old, {1: 299})
        self.refused(TooLong, parts, old, {1: 10 ** 18 - 1})
        long = run(parts, "main", (), {1: 298}, 300)
        self.assertEqual(self.told(parts, long, {1: 3}, 5), (old, [(0,), (1,), (2,), (3,), (4,)]))
        self.refused(TooLong, parts, long, {1: 3}, 4)

    def test_too_deep_by_what_cells_hold(self):
        parts = made(read(DOWN))
        for begun in range(15):
            old = run(parts, "main", (), {1: begun}, 300)
            self.assertEqual(self.told(parts, old, {1: 14})[0][3], 14)
            self.assertEqual(self.told(parts, old, {1: 0})[0][3], 0)
            self.refused(TooDeep, parts, old, {1: 15})
            self.refused(TooDeep, parts, old, {1: 99})

    def test_too_long_ahead_of_too_deep(self):
        parts = made(read(DOWN))
        old = run(parts, "main", (), {1: 4}, 300)
        self.refused(TooLong, parts, old, {1: 15}, 31)
        self.refused(TooDeep, parts, old, {1: 15}, 33)
        for most in range(40):
            told = told_or_refused(again, parts, old, {1: 15}, most)
            self.assertEqual(told, told_or_refused(run, parts, "main", (), {1: 15}, most))

    def test_from_a_book_that_is_deeper_than_a_run_may_be(self):
        parts = made(read(DOWN))
        old = ("main", (), ((0, (), ("read", 1, 15)), (1, (15,), ("call", down(15)))), 15)
        self.assertTrue(right(parts, old))
        self.refused(TooDeep, parts, old, {1: 15})
        self.assertEqual(self.told(parts, old, {1: 14})[0][3], 14)

    def test_a_chain_too_deep_that_is_taken_over_or_lent(self):
        parts = made(read(DOWN + "def either\n read x 2\n if x\n  call y down 15\n else\n  call y down 15\n end\nend"))
        for x in (0, 1):
            steps = ((0, (), ("read", 2, x)), (1, (x,), ("ask", x)), (3 - x, (), ("call", down(15))))
            old = ("either", (), steps, 0)
            self.assertTrue(right(parts, old))
            self.refused(TooDeep, parts, old, {2: x})
            self.refused(TooDeep, parts, old, {2: 1 - x})


def without_ways(parts, chain, anew):
    """The parts without the deeds and ways of all cuts, but of those whose steps are run anew."""
    steps = steps_by_path(chain)
    needed = set()
    for path in anew:
        f = chain[0] if len(path) == 1 else steps[path[:-1]][2][1][0]
        needed.add((f, steps[path][0]))
    called = {steps[path][2][1][0] for path in anew if steps[path][2][0] == "call"}
    return tuple([(f, params, first if f in called else None,
                   tuple([cut if (f, n) in needed else (cut[0], None, None) for n, cut in enumerate(cuts)]))
                  for f, params, first, cuts in parts])


class AlongTest(AgainTest):
    def test_nothing_else_is_run_anew(self):
        spared = 0
        for seed in range(300):
            busy = Busy(seed)
            old = busy.book(busy.cells)
            for many in (0, 1, 2):
                cells = busy.changed(many)
                new, anew = self.told(busy.parts, old, cells)
                fewer = without_ways(busy.parts, new, anew)
                self.assertEqual(again(fewer, old, cells, 300), (new, anew))
                spared += fewer != busy.parts
        self.assertGreater(spared, 800)

    def test_with_nothing_changed_no_part_is_looked_into(self):
        parts = made(read(SUM))
        old = run(parts, "main", (3,), {1: 5}, 300)
        bare = tuple([(f, params, None, ()) for f, params, _, _ in parts])
        self.assertEqual(again(bare, old, {1: 5}, 300), (old, []))


class ManyTest(AgainTest):
    def test_beside_the_run_from_the_begin(self):
        changed = 0
        for seed in range(400):
            busy = Busy(seed)
            for old in (busy.book(busy.cells), busy.wild_book()):
                for many in (0, 1, 1, 3):
                    cells = busy.changed(many)
                    new, anew = self.told(busy.parts, old, cells)
                    self.assertTrue(right(busy.parts, new))
                    self.assertTrue(true_of(new, cells))
                    self.assertEqual(anew == [], old == new)
                    changed += 0 < len(anew) < len(steps_by_path(new))
        self.assertGreater(changed, 500)

    def test_refused_just_as_the_run(self):
        came = {}
        for seed in range(60):
            busy = Busy(seed)
            old = busy.book(busy.cells)
            cells = busy.changed(2)
            for most in range(len(steps_by_path(busy.book(cells))) + 2):
                told = told_or_refused(again, busy.parts, old, cells, most)
                there = told_or_refused(run, busy.parts, "f", busy.args, cells, most)
                self.assertEqual(told if isinstance(told, type) else told[0], there)
                sort = there if isinstance(there, type) else "chain"
                came[sort] = came.get(sort, 0) + 1
        self.assertGreater(min(came["chain"], came[TooLong]), 100, came)

    def test_kept_steps_find_what_they_found(self):
        for seed in range(200):
            busy = Busy(seed)
            old = busy.book(busy.cells)
            new = again(busy.parts, old, busy.changed(2), 300)[0]
            old_steps, new_steps = steps_by_path(old), steps_by_path(new)
            for before, now in laid(old, new)[0]:
                if new_steps[now][2][0] != "call":
                    self.assertEqual(new_steps[now], old_steps[before])

    def test_changes_one_by_one_in_whatever_order_or_at_once(self):
        for seed in range(100):
            busy = Busy(seed)
            old = busy.book(busy.cells)
            changes = [(cell, busy.maker.number()) for cell in range(3)]
            at_once = self.told(busy.parts, old, {**busy.cells, **dict(changes)})[0]
            for order in itertools.permutations(changes):
                cells, book = dict(busy.cells), old
                for cell, number in order:
                    cells[cell] = number
                    book = self.told(busy.parts, book, cells)[0]
                self.assertEqual(book, at_once)


if __name__ == "__main__":
    unittest.main()

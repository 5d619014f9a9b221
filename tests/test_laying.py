import unittest

from againbook.laying import distance, laid
from againbook.maker import made
from againbook.reader import read
from againbook.runner import run
from programs import Busy, steps_by_path

# Cell 0 holds the first number, the cell of each number the one behind it, up to 0.
ROW = """
def main
  read p 0
  while p
    {}
    read p p
  end
end
def f n
  write (+ n 100) 1
  give 7
end
def cell n
  read x n
  give x
end
def deep n
  call x f n
  call y f 50
  give x
end
"""


def cells_of(*numbers):
    return dict(zip((0,) + numbers, numbers))


def same(*paths):
    return [(path, path) for path in paths]


def steps(begin, end):
    return [(k,) for k in range(begin, end)]


class LayingTest(unittest.TestCase):
    def books(self, text, old_cells, new_cells, args=()):
        parts = made(read(text))
        return [run(parts, "main", args, cells, 300) for cells in (old_cells, new_cells)]

    def lies(self, old, new, kept=(), turned=(), fresh=(), dropped=()):
        before = repr((old, new))
        expected = (list(kept), list(turned), list(fresh), list(dropped))
        for _ in range(2):
            told = laid(old, new)
            self.assertEqual(told, expected)
            self.assertEqual(repr(told), repr(expected))
            self.assertEqual(distance(old, new), len(turned) + len(fresh) + len(dropped))
        self.assertEqual(repr((old, new)), before)

    def rows_lie(self, statement, old, new, **told):
        self.lies(*self.books(ROW.format(statement), cells_of(*old), cells_of(*new)), **told)


class LikesTest(LayingTest):
    def test_without_steps(self):
        self.lies(("main", (), (), 0), ("main", (), (), 0))

    def test_beside_itself(self):
        for seed in range(100):
            busy = Busy(seed)
            for book in (busy.book(busy.cells), busy.wild_book()):
                self.lies(book, book, kept=same(*sorted(steps_by_path(book))))

    def test_a_read_that_found_something_other(self):
        text = "def main\n read x 1\n read y 2\n give 0\nend"
        old, new = self.books(text, {1: 5, 2: 6}, {1: 5, 2: 7})
        self.lies(old, new, kept=same((0,)), turned=same((1,)))
        old, new = self.books(text, {1: 5, 2: 6}, {1: 4, 2: 7})
        self.lies(old, new, turned=same((0,), (1,)))
        old, new = self.books(text, {1: 5, 2: 6}, {1: 0, 2: 6})
        self.lies(old, new, kept=same((1,)), turned=same((0,)))

    def test_another_held_is_no_like(self):
        text = "def main\n read x 1\n write 2 x\n write 3 9\n give x\nend"
        old, new = self.books(text, {1: 5}, {1: 6})
        self.lies(old, new, turned=same((0,)), fresh=[(1,), (2,)], dropped=[(1,), (2,)])

    def test_another_n_is_no_like(self):
        text = "def main\n read x 1\n if x\n  write 2 5\n else\n  write 2 5\n end\n write 3 7\nend"
        old, new = self.books(text, {1: 0}, {1: 1})
        self.lies(old, new, kept=same((3,)), turned=same((0,)), fresh=[(1,), (2,)], dropped=[(1,), (2,)])

    def test_steps_that_are_more_or_fewer(self):
        self.rows_lie("write 100 p", (1, 2, 0), (2, 0), turned=same((0,)),
                      kept=[((k,), (k - 3,)) for k in range(4, 8)], dropped=[(1,), (2,), (3,)])
        self.rows_lie("write 100 p", (2, 0), (1, 2, 0), turned=same((0,)),
                      kept=[((k - 3,), (k,)) for k in range(4, 8)], fresh=[(1,), (2,), (3,)])

    def test_behind_the_last_like_all_old_steps_are_dropped(self):
        text = "def main\n read x 1\n if x\n  write 2 5\n  write 3 5\n else\n end\nend"
        old, new = self.books(text, {1: 1}, {1: 0})
        self.lies(old, new, turned=same((0,)), fresh=[(1,)], dropped=[(1,), (2,), (3,)])
        self.lies(new, old, turned=same((0,)), fresh=[(1,), (2,), (3,)], dropped=[(1,)])

    def test_from_the_mark_on(self):
        # The steps of 1 stand ahead of the mark, once those of 2 have been found.
        self.rows_lie("write 100 p", (1, 2, 3, 0), (2, 1, 3, 0),
                      kept=[((4,), (1,)), ((5,), (2,)), ((7,), (7,)), ((8,), (8,)), ((9,), (9,)), ((10,), (10,))],
                      turned=[((0,), (0,)), ((6,), (3,))], fresh=[(4,), (5,), (6,)], dropped=[(1,), (2,), (3,)])

    def test_the_first_one_from_the_mark_on(self):
        # A cell counts down; what else is done in a round is the same in each, with the same held.
        text = "def main\n read x 9\n while x\n  write 9 (- x 1)\n  write 8 1\n  read x 9\n end\nend"
        one, two, three = [self.books(text, {9: x}, {})[0] for x in (1, 2, 3)]
        self.lies(two, one, kept=[((5 + k,), (1 + k,)) for k in range(5)], turned=same((0,)), dropped=steps(1, 5))
        self.lies(one, two, kept=[((3,), (3,)), ((5,), (9,))], turned=same((0,), (4,)),
                  fresh=steps(1, 3) + steps(5, 9), dropped=steps(1, 3))
        self.lies(two, three, kept=[((3,), (3,)), ((7,), (7,)), ((9,), (13,))], turned=same((0,), (4,), (8,)),
                  fresh=steps(1, 3) + steps(5, 7) + steps(9, 13), dropped=steps(1, 3) + steps(5, 7))

    def test_a_like_that_writes_or_asks_is_always_kept(self):
        for seed in range(200):
            busy = Busy(seed)
            old, new = busy.wild_book(), busy.wild_book()
            steps = steps_by_path(new)
            for _, path in laid(old, new)[1]:
                self.assertIn(steps[path][2][0], ("read", "call"))


class CallsTest(LayingTest):
    def test_a_call_is_kept_where_the_answers_are_the_same(self):
        old, new = self.books("def main\n call x f\n give x\nend\ndef f\n read a 1\n give 7\nend", {1: 2}, {1: 3})
        self.lies(old, new, kept=same((0,)), turned=same((0, 0)))

    def test_a_call_is_turned_where_they_are_not(self):
        old, new = self.books("def main\n call x f\n give 0\nend\ndef f\n read a 1\n give a\nend", {1: 2}, {1: 3})
        self.lies(old, new, turned=same((0,), (0, 0)))

    def test_within_calls_within_calls(self):
        text = ("def main\n call x g\n write 9 x\nend\ndef g\n write 8 8\n call x h\n call y h\n give (< x y)\nend\n"
                "def h\n read a 1\n write 2 a\n give a\nend")
        old, new = self.books(text, {1: 2}, {1: 3})
        self.lies(old, new, kept=same((0,), (0, 0), (1,)),
                  turned=same((0, 1), (0, 1, 0), (0, 2, 0)),
                  fresh=[(0, 1, 1), (0, 2), (0, 2, 1)],
                  dropped=[(0, 1, 1), (0, 2), (0, 2, 1)])

    def test_each_chain_has_a_mark_of_its_own(self):
        text = ("def main\n call x f 1\n call x f 2\nend\n"
                "def f n\n read a n\n if a\n  write 50 n\n else\n end\n write 51 n\nend")
        old, new = self.books(text, {1: 1}, {2: 1})
        self.lies(old, new, kept=[((0,), (0,)), ((0, 3), (0, 2)), ((1,), (1,)), ((1, 2), (1, 3))],
                  turned=same((0, 0), (1, 0)),
                  fresh=[(0, 1), (1, 1), (1, 2)], dropped=[(0, 1), (0, 2), (1, 1)])


class LentTest(LayingTest):
    twice = "def main\n read a 1\n if a\n  call x f 9\n else\n end\n call x f 9\nend\ndef f n\n write n 1\nend"

    def test_a_fresh_call_is_lent_a_chain(self):
        # Of 4 nothing is old, but the call of f with 9 in the round of 1 is the first one from the mark on.
        self.rows_lie("call x f 9", (1, 2, 0), (4, 2, 0), turned=same((0,)),
                      kept=same((2, 0), (4,), (5,), (5, 0), (6,), (7,)), fresh=steps(1, 4), dropped=steps(1, 4))

    def test_the_mark_goes_behind_the_lender(self):
        # The rounds of 4, 5 and 2 are lent the chains of 1, 2 and 3: so the calls of 2 and 3 stand ahead of the mark.
        self.rows_lie("call x f 9", (1, 2, 3, 0), (4, 5, 2, 3, 0), turned=same((0,)),
                      kept=same((2, 0), (5, 0), (8, 0)) + [((9,), (12,)), ((10,), (13,))],
                      fresh=steps(1, 12) + [(11, 0)], dropped=steps(1, 9))

    def test_a_like_behind_goes_ahead_of_a_lender(self):
        old, new = self.books(self.twice, {1: 1}, {1: 0})
        self.lies(old, new, kept=[((3,), (2,)), ((3, 0), (2, 0))], turned=same((0,)), fresh=[(1,)],
                  dropped=[(1,), (2,), (2, 0)])

    def test_a_lender_is_the_like_of_no_later_step(self):
        old, new = self.books(self.twice, {1: 0}, {1: 1})
        self.lies(old, new, kept=same((2, 0)), turned=same((0,)), fresh=[(1,), (2,), (3,), (3, 0)],
                  dropped=[(1,), (2,)])

    def test_a_like_is_no_lender(self):
        text = ("def main\n call x f 9\n read a 1\n if a\n  call x f 9\n else\n end\nend\n"
                "def f n\n write n 1\nend")
        old, new = self.books(text, {1: 0}, {1: 1})
        self.lies(old, new, kept=same((0,), (0, 0)), turned=same((1,)), fresh=[(2,), (3,), (3, 0)], dropped=[(2,)])

    def test_another_def_lends_none(self):
        text = ("def main\n read a 1\n if a\n  call x f 9\n else\n  call x g 9\n end\nend\n"
                "def f n\n write n 1\nend\ndef g n\n write n 1\nend")
        old, new = self.books(text, {1: 0}, {1: 1})
        self.lies(old, new, turned=same((0,)), fresh=[(1,), (2,), (2, 0)], dropped=[(1,), (2,), (2, 0)])

    def test_other_args_lend_none(self):
        self.rows_lie("call x f p", (1, 0), (4, 0), kept=same((4,)), turned=same((0,)),
                      fresh=[(1,), (2,), (2, 0), (3,)], dropped=[(1,), (2,), (2, 0), (3,)])

    def test_a_step_that_does_not_call_lends_none(self):
        self.rows_lie("write 9 p", (1, 0), (4, 0), kept=same((4,)), turned=same((0,)), fresh=steps(1, 4),
                      dropped=steps(1, 4))

    def test_what_the_lent_chain_found_may_be_other(self):
        old, new = self.books(ROW.format("call x cell 9"), {**cells_of(1, 0), 9: 5}, {**cells_of(4, 0), 9: 6})
        self.lies(old, new, kept=same((4,)), turned=same((0,), (2, 0)), fresh=steps(1, 4), dropped=steps(1, 4))

    def test_a_lent_chain_with_calls_in_it(self):
        self.rows_lie("call x deep 9", (1, 0), (4, 0), turned=same((0,)),
                      kept=same((2, 0), (2, 0, 0), (2, 1), (2, 1, 0), (4,)), fresh=steps(1, 4), dropped=steps(1, 4))

    def test_where_none_lends_all_within_is_fresh_and_dropped(self):
        # Within both there is a call of f with 50, but these chains are not laid side by side.
        within = [(1,), (2,), (2, 0), (2, 0, 0), (2, 1), (2, 1, 0), (3,)]
        self.rows_lie("call x deep p", (1, 0), (4, 0), kept=same((4,)), turned=same((0,)), fresh=within, dropped=within)

    def test_a_chain_within_a_laid_one_is_lent_within_it_alone(self):
        text = ("def main\n call x h\n call y f 9\nend\n"
                "def h\n read a 1\n if a\n  call x f 9\n else\n end\nend\ndef f n\n write n 1\nend")
        old, new = self.books(text, {1: 0}, {1: 1})
        self.lies(old, new, kept=same((0,), (1,), (1, 0)), turned=same((0, 0)), fresh=[(0, 1), (0, 2), (0, 2, 0)],
                  dropped=[(0, 1)])
        self.lies(new, old, kept=same((0,), (1,), (1, 0)), turned=same((0, 0)), fresh=[(0, 1)],
                  dropped=[(0, 1), (0, 2), (0, 2, 0)])


class ToldTest(LayingTest):
    def test_sorted_by_numbers_and_not_by_figures(self):
        numbers = tuple(range(1, 13))
        self.rows_lie("write 99 p", numbers + (0,), (50,) + numbers + (0,), turned=same((0,)),
                      kept=[((k,), (k + 3,)) for k in range(1, 38)], fresh=steps(1, 4))
        self.rows_lie("write 99 p", numbers + (0,), (0,), turned=same((0,)), kept=[((37,), (1,))], dropped=steps(1, 37))
        self.rows_lie("write 99 p", (0,), numbers + (0,), turned=same((0,)), kept=[((1,), (37,))], fresh=steps(1, 37))

    def test_the_lists_are_the_askers_own(self):
        old, new = self.books(ROW.format("call x f 9"), cells_of(1, 2, 0), cells_of(4, 2, 0))
        first = laid(old, new)
        expected = repr(first)
        for row in first:
            self.assertTrue(row)
            row.clear()
        self.assertEqual(repr(laid(old, new)), expected)

    def test_distance(self):
        books = [self.books(ROW.format("call x deep 9"), cells_of(*numbers), {})[0]
                 for numbers in ((1, 2, 0), (4, 2, 0), (2, 0), (0,))]
        for old, new, expected in ((0, 0, 0), (0, 1, 7), (1, 0, 7), (0, 2, 8), (2, 0, 12), (2, 3, 8), (3, 3, 0)):
            told = distance(books[old], books[new])
            self.assertEqual(repr(told), repr(expected))


def pairs(old, new, old_path=(), new_path=()):
    """Each like beside its new step, by the document's words, as (old path, new path, whether both found the same)."""
    mark = 0
    for number, (n, held, what) in enumerate(new[2]):
        behind = [(k, step) for k, step in enumerate(old[2]) if k >= mark]
        likes = [(k, step) for k, step in behind if step[0] == n and step[1] == held]
        lenders = [(k, step) for k, step in behind if what[0] == "call" and step[2][0] == "call"
                   and step[2][1][0] == what[1][0] and step[2][1][1] == what[1][1]]
        if not likes + lenders:
            continue
        k, step = (likes + lenders)[0]
        mark = k + 1
        if likes:
            found = step[2][1][3] == what[1][3] if what[0] == "call" else step[2] == what
            yield old_path + (k,), new_path + (number,), found
        if what[0] == "call":
            yield from pairs(step[2][1], what[1], old_path + (k,), new_path + (number,))


class ManyTest(LayingTest):
    def test_beside_the_pairs(self):
        came = dict.fromkeys(("turned read", "turned call", "kept call with others in it", "lent", "fresh within"), 0)
        for seed in range(400):
            busy = Busy(seed)
            old = busy.book(busy.cells)
            for new in [busy.book(busy.changed(many)) for many in (1, 1, 4)] + [busy.wild_book()]:
                likes = list(pairs(old, new))
                old_steps, new_steps = steps_by_path(old), steps_by_path(new)
                kept = [(a, b) for a, b, found in likes if found]
                turned = [(a, b) for a, b, found in likes if not found]
                fresh = sorted(set(new_steps) - {b for _, b, _ in likes})
                self.lies(old, new, kept=kept, turned=turned, fresh=fresh,
                          dropped=sorted(set(old_steps) - {a for a, _, _ in likes}))
                came["turned read"] += any(new_steps[b][2][0] == "read" for _, b in turned)
                came["turned call"] += any(new_steps[b][2][0] == "call" for _, b in turned)
                came["kept call with others in it"] += any(old_steps[a] != new_steps[b] for a, b in kept)
                came["lent"] += any(b[:-1] in fresh for _, b, _ in likes)
                came["fresh within"] += any(b[:-1] in fresh for b in fresh)
        self.assertGreater(min(came.values()), 40, came)


if __name__ == "__main__":
    unittest.main()

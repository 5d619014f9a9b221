import unittest

from againbook.checker import right, true_of
from againbook.errors import NoCount, NoName, TooLong
from againbook.maker import made
from againbook.reader import read
from againbook.runner import BookRun, run
from againbook.turns import begun
from programs import TOP, Busy, are_plain, steps_by_path

SUM = made(read("""
def main a
  read x a
  set y 0
  if x
    write a (+ x 1)
  else
    call y double a
  end
  give (+ x y)
end
def double b
  give (* 2 b)
end
def other b
  give (* 2 b)
end
def pair b c
  write b c
end
"""))


class CheckerTest(unittest.TestCase):
    def tells(self, expected, function, *handed):
        before = repr(handed)
        for _ in range(2):
            self.assertIs(function(*handed), expected, handed)
        self.assertEqual(repr(handed), before)

    def is_right(self, chain, parts=SUM):
        self.assertTrue(are_plain(chain), chain)
        self.tells(True, right, parts, chain)

    def is_wrong(self, chain, parts=SUM):
        self.assertTrue(are_plain(chain), chain)
        self.tells(False, right, parts, chain)


def doubled(b, answer, f="double"):
    return (f, (b,), (), answer)


READ = (0, (5,), ("read", 5, 3))
ASK = (1, (5, 3, 0), ("ask", 1))
WRITE = (2, (5, 3, 0), ("write", 5, 4))
READ_0 = (0, (5,), ("read", 5, 0))
ASK_0 = (1, (5, 0, 0), ("ask", 0))
CALL = (3, (5, 0), ("call", doubled(5, 10)))


def main(*steps, args=(5,), answer=3):
    return ("main", args, steps, answer)


class RightTest(CheckerTest):
    def test_the_runs_chain(self):
        self.is_right(main(READ, ASK, WRITE))
        self.is_right(main(READ_0, ASK_0, CALL, answer=10))
        self.assertEqual(run(SUM, "main", (5,), {5: 3}, 300), main(READ, ASK, WRITE))
        self.assertEqual(run(SUM, "main", (5,), {}, 300), main(READ_0, ASK_0, CALL, answer=10))

    def test_without_steps(self):
        self.is_right(doubled(4, 8))
        self.is_right(doubled(0, 0))
        self.is_right(doubled(TOP - 1, TOP - 2))

    def test_any_number_found_by_a_read(self):
        for number in (1, 2, TOP - 1):
            step = (0, (5,), ("read", 5, number))
            ask = (1, (5, number, 0), ("ask", 1))
            self.is_right(main(step, ask, (2, (5, number, 0), ("write", 5, (number + 1) % TOP)), answer=number))

    def test_reads_of_one_cell_that_found_unlike_numbers(self):
        parts = made(read("def main\n read x 1\n read y 1\n give (+ x y)\nend"))
        self.is_right(("main", (), ((0, (), ("read", 1, 4)), (1, (4,), ("read", 1, 7))), 11), parts)

    def test_a_read_that_did_not_find_what_was_written(self):
        parts = made(read("def main\n write 1 5\n read x 1\n give x\nend"))
        self.is_right(("main", (), ((0, (), ("write", 1, 5)), (1, (), ("read", 1, 6))), 6), parts)

    def test_deeper_than_a_run_may_be(self):
        parts = made(read("def main n\n if n\n  call x main (- n 1)\n  give (+ x 1)\n else\n end\nend"))
        chain = ("main", (0,), ((0, (0,), ("ask", 0)),), 0)
        for n in range(1, 18):
            chain = ("main", (n,), ((0, (n,), ("ask", 1)), (1, (n,), ("call", chain))), n)
            self.is_right(chain, parts)


class WrongBeginTest(CheckerTest):
    def test_no_such_part(self):
        for f in ("none", "a", "maim", "doubles"):
            self.is_wrong((f, (5,), (READ, ASK, WRITE), 3))
            self.is_wrong((f, (4,), (), 8))
        self.is_wrong(("main", (), (), 0), ())

    def test_another_number_of_args(self):
        for args in ((), (5, 5), (5, 0, 0)):
            self.is_wrong(main(READ, ASK, WRITE, args=args))
        for args in ((), (4, 4)):
            self.is_wrong(("double", args, (), 8))
        self.is_wrong(("double", (), (), 0))
        self.is_wrong(("pair", (5,), ((0, (5, 0), ("write", 5, 0)),), 0))
        self.is_right(("pair", (5, 6), ((0, (5, 6), ("write", 5, 6)),), 0))

    def test_other_args(self):
        for args in ((4,), (0,), (TOP - 1,)):
            self.is_wrong(main(READ, ASK, WRITE, args=args))

    def test_another_answer_where_there_are_no_steps(self):
        for answer in (0, 7, 9, TOP - 1):
            self.is_wrong(doubled(4, answer))

    def test_steps_where_the_first_way_gives(self):
        for step in (READ, (0, (), ("ask", 1)), (-1, (), ("ask", 0))):
            self.is_wrong(("double", (4,), (step,), 8))
        self.is_wrong(("double", (4,), (READ, ASK, WRITE), 8))

    def test_no_steps_where_the_first_way_goes(self):
        for answer in (0, 3, 5):
            self.is_wrong(main(answer=answer))

    def test_another_first_step(self):
        for step in ((1, (5,), ("read", 5, 3)), (-4, (5,), ("read", 5, 3)), (0, (4,), ("read", 4, 3)),
                     (0, (4,), ("read", 5, 3)), (0, (), ("read", 5, 3)), (0, (5, 0), ("read", 5, 3))):
            self.is_wrong(main(step, ASK, WRITE))
        self.is_wrong(main(ASK, WRITE))
        self.is_wrong(main(WRITE))


class WrongStepTest(CheckerTest):
    def test_a_what_of_another_word(self):
        whats = [("read", 5, 3), ("write", 5, 3), ("write", 5, 4), ("ask", 1), ("ask", 0), ("call", doubled(5, 3)),
                 ("call", doubled(5, 10)), ("call", main(READ, ASK, WRITE))]
        for chain, others in ((main(READ, ASK, WRITE), ("read", "ask", "write")),
                              (main(READ_0, ASK_0, CALL, answer=10), ("read", "ask", "call"))):
            for at, word in enumerate(others):
                for what in whats:
                    if what[0] != word:
                        steps = list(chain[2])
                        steps[at] = steps[at][:2] + (what,)
                        self.is_wrong(chain[:2] + (tuple(steps), chain[3]))

    def test_a_read_of_another_cell(self):
        for cell in (0, 4, 6, 3):
            self.is_wrong(main((0, (5,), ("read", cell, 3)), ASK, WRITE))

    def test_a_read_that_found_another_number_than_is_held_behind_it(self):
        for number in (0, 2, 4):
            self.is_wrong(main((0, (5,), ("read", 5, number)), ASK, WRITE))

    def test_a_write_into_another_cell_or_of_another_number(self):
        for what in (("write", 4, 4), ("write", 5, 3), ("write", 5, 5), ("write", 4, 5), ("write", 5, 0)):
            self.is_wrong(main(READ, ASK, (2, (5, 3, 0), what)))

    def test_an_ask_that_found_the_other(self):
        self.is_wrong(main(READ, (1, (5, 3, 0), ("ask", 0)), WRITE))
        self.is_wrong(main(READ, (1, (5, 3, 0), ("ask", 0)), (3, (5, 3), ("call", doubled(5, 10))), answer=13))
        self.is_wrong(main(READ_0, (1, (5, 0, 0), ("ask", 1)), (2, (5, 0, 0), ("write", 5, 1)), answer=0))
        self.is_wrong(main(READ_0, (1, (5, 0, 0), ("ask", 1)), CALL, answer=10))

    def test_the_term_of_an_ask_itself_is_no_what(self):
        self.is_wrong(main(READ, (1, (5, 3, 0), ("ask", 3)), WRITE))

    def test_an_n_of_no_cut(self):
        for n in (4, 5, 9999, TOP, -1, -2, -3, -4, -5):
            for at in range(3):
                for chain in (main(READ, ASK, WRITE), main(READ_0, ASK_0, CALL, answer=10)):
                    steps = list(chain[2])
                    steps[at] = (n,) + steps[at][1:]
                    self.is_wrong(chain[:2] + (tuple(steps), chain[3]))

    def test_an_n_of_another_cut(self):
        self.is_wrong(main(READ, (2, (5, 3, 0), ("ask", 1)), WRITE))
        self.is_wrong(main(READ, ASK, (3, (5, 3, 0), ("write", 5, 4))))
        parts = made(read("def main\n read x 1\n read x 1\n give x\nend"))
        self.is_right(("main", (), ((0, (), ("read", 1, 4)), (1, (), ("read", 1, 4))), 4), parts)
        for first, second in ((0, 0), (1, 1), (1, 0)):
            self.is_wrong(("main", (), ((first, (), ("read", 1, 4)), (second, (), ("read", 1, 4))), 4), parts)

    def test_held_of_another_count(self):
        for held in ((), (5,), (5, 3), (5, 3, 0, 0)):
            self.is_wrong(main(READ, (1, held, ("ask", 1)), WRITE))
            self.is_wrong(main(READ, ASK, (2, held, ("write", 5, 4))))
        for held in ((), (5,), (5, 0, 0)):
            self.is_wrong(main(READ_0, ASK_0, (3, held, ("call", doubled(5, 10))), answer=10))

    def test_held_with_other_numbers(self):
        for held in ((4, 3, 0), (5, 2, 0), (5, 3, 1), (3, 5, 0)):
            self.is_wrong(main(READ, (1, held, ("ask", 1)), WRITE))
        self.is_wrong(main(READ, ASK, (2, (6, 3, 0), ("write", 6, 4))))
        self.is_wrong(main(READ_0, ASK_0, (3, (6, 0), ("call", doubled(6, 12))), answer=12))

    def test_the_last_one_does_not_lead_to_the_answer(self):
        for answer in (0, 2, 4, 5):
            self.is_wrong(main(READ, ASK, WRITE, answer=answer))
        for answer in (0, 5, 9, 11):
            self.is_wrong(main(READ_0, ASK_0, CALL, answer=answer))

    def test_steps_that_are_lacking_or_too_many(self):
        for steps in ((READ, ASK), (READ,), (READ, WRITE), (ASK, WRITE), (READ, ASK, WRITE, WRITE),
                      (READ, READ, ASK, WRITE), (READ, ASK, ASK, WRITE), (READ, WRITE, ASK), (READ, ASK, WRITE, READ)):
            self.is_wrong(main(*steps))


class WrongCallTest(CheckerTest):
    def called(self, chain, answer=10):
        return main(READ_0, ASK_0, (3, (5, 0), ("call", chain)), answer=answer)

    def test_a_chain_of_another_def(self):
        self.is_right(self.called(doubled(5, 10)))
        self.is_wrong(self.called(doubled(5, 10, "other")))
        self.is_wrong(self.called(doubled(5, 10, "none")))
        self.is_wrong(self.called(main(READ, ASK, WRITE), 3))

    def test_a_chain_with_other_args(self):
        for b in (0, 4, 6):
            self.is_wrong(self.called(doubled(b, 2 * b), 2 * b))
            self.is_wrong(self.called(doubled(b, 10)))
        self.is_wrong(self.called(("double", (), (), 0), 0))
        self.is_wrong(self.called(("double", (5, 0), (), 10)))

    def test_a_chain_that_is_not_right_itself(self):
        for answer in (0, 9, 11):
            self.is_wrong(self.called(doubled(5, answer), answer))
        self.is_wrong(self.called(("double", (5,), (READ,), 10)))

    def test_an_answer_that_the_chain_did_not_give(self):
        self.is_wrong(self.called(doubled(5, 10), 11))

    def test_a_fault_within_calls_within_calls(self):
        parts = made(read("def main\n call x g\n give x\nend\ndef g\n call x h\n write 1 x\n give x\nend\n"
                          "def h\n read x 1\n write 2 x\n give x\nend"))

        def book(number):
            h = ("h", (), ((0, (), ("read", 1, 4)), (1, (4,), ("write", 2, number))), 4)
            g = ("g", (), ((0, (), ("call", h)), (1, (4,), ("write", 1, 4))), 4)
            return ("main", (), ((0, (), ("call", g)),), 4)

        self.is_right(book(4), parts)
        for number in (0, 3, 5):
            self.is_wrong(book(number), parts)


class TrueOfTest(CheckerTest):
    def is_true(self, chain, cells):
        self.tells(True, true_of, chain, cells)

    def is_untrue(self, chain, cells):
        self.tells(False, true_of, chain, cells)

    def steps(self, *whats):
        return ("main", (), tuple([(n, (), what) for n, what in enumerate(whats)]), 0)

    def test_what_the_cell_holds(self):
        book = self.steps(("read", 1, 5))
        self.is_true(book, {1: 5})
        self.is_true(book, {1: 5, 2: 8})
        for cells in ({1: 4}, {1: 6}, {1: 0}, {2: 5}, {}):
            self.is_untrue(book, cells)

    def test_0_where_the_cells_lack_it(self):
        book = self.steps(("read", 1, 0))
        self.is_true(book, {})
        self.is_true(book, {1: 0})
        self.is_true(book, {2: 3})
        self.is_untrue(book, {1: 3})

    def test_what_the_step_that_it_sees_wrote(self):
        book = self.steps(("write", 1, 5), ("read", 1, 5), ("write", 1, 0), ("read", 1, 0))
        for cells in ({}, {1: 5}, {1: 0}, {1: 8}):
            self.is_true(book, cells)
        for book in (self.steps(("write", 1, 5), ("read", 1, 6)), self.steps(("write", 1, 0), ("read", 1, 6)),
                     self.steps(("write", 1, 6), ("write", 1, 5), ("read", 1, 6))):
            for cells in ({}, {1: 6}, {1: 5}):
                self.is_untrue(book, cells)

    def test_a_write_behind_it_or_into_another_cell_is_not_seen(self):
        self.is_true(self.steps(("read", 1, 4), ("write", 1, 5)), {1: 4})
        self.is_untrue(self.steps(("read", 1, 5), ("write", 1, 5)), {1: 4})
        self.is_true(self.steps(("write", 2, 5), ("read", 1, 4)), {1: 4})
        self.is_untrue(self.steps(("write", 2, 5), ("read", 1, 5)), {1: 4})

    def test_each_read_counts(self):
        for numbers in ((5, 6), (6, 5), (6, 6)):
            self.is_untrue(self.steps(*[("read", 1, number) for number in numbers]), {1: 5})
        self.is_true(self.steps(("read", 1, 5), ("read", 1, 5)), {1: 5})
        self.is_untrue(self.steps(("read", 1, 4), ("write", 1, 5)), {1: 5})

    def test_in_calls_too(self):
        inner = self.steps(("read", 1, 5), ("write", 1, 6), ("read", 2, 7))
        self.is_true(self.steps(("call", inner), ("read", 1, 6)), {1: 5, 2: 7})
        self.is_true(self.steps(("call", self.steps(("call", inner))), ("read", 1, 6)), {1: 5, 2: 7})
        self.is_untrue(self.steps(("call", inner), ("read", 1, 5)), {1: 5, 2: 7})
        self.is_untrue(self.steps(("call", inner), ("read", 1, 6)), {1: 6, 2: 7})
        self.is_untrue(self.steps(("call", self.steps(("call", inner)))), {1: 5})
        self.is_true(self.steps(("write", 1, 5), ("call", inner)), {1: 0, 2: 7})

    def test_without_reads_it_is_true_of_all_cells(self):
        for book in (self.steps(), self.steps(("write", 1, 5), ("ask", 1), ("call", self.steps(("ask", 0))))):
            for cells in ({}, {1: 7}, {5: 5}):
                self.is_true(book, cells)

    def test_whether_it_is_right_is_not_looked_at(self):
        self.is_true(("none", (1, 2), ((77, (4,), ("read", 1, 5)),), 8), {1: 5})


class Lacking(Exception):
    pass


class ReplayRun(BookRun):
    """A run whose reads find, one by one, what they are told."""

    def number_in(self, cell):
        if not self.cells:
            raise Lacking()
        return self.cells.pop(0)


def is_replayed(parts, chain):
    """Whether the run that finds what the chain's reads found, one by one, is this chain."""
    steps = steps_by_path(chain)
    numbers = [steps[path][2][2] for path in sorted(steps) if steps[path][2][0] == "read"]
    try:
        part = begun(parts, chain[0], chain[1])
        return ReplayRun(parts, numbers, len(steps)).chain_of(part, chain[1], 0) == chain
    except (NoName, NoCount, TooLong, Lacking):
        return False


def bent(chain, chance):
    """The chain with one thing in it, or in a chain in it, made other."""
    f, args, steps, answer = chain
    at = chance.randrange(len(steps) + 1)
    if at == len(steps):
        sort = chance.randrange(3)
        if sort == 0:
            return (chance.choice(["f", "g", "h", "none"]), args, steps, answer)
        if sort == 1:
            return (f, bent_numbers(args, chance), steps, answer)
        return (f, args, steps, chance.randrange(4))
    return (f, args, steps[:at] + bent_steps(steps, at, chance) + steps[at + 1:], answer)


def bent_numbers(numbers, chance):
    at = chance.randrange(len(numbers) + 1)
    middle = chance.choice([(), (chance.randrange(4),), numbers[at:at + 1] * 2])
    return numbers[:at] + middle + numbers[at + 1:]


def bent_steps(steps, at, chance):
    n, held, what = steps[at]
    sort = chance.randrange(6)
    if sort == 0:
        return chance.choice([(), steps[at:at + 1] * 2, (chance.choice(steps),)])
    if sort == 1:
        return ((chance.randrange(-3, 10), held, what),)
    if sort == 2:
        return ((n, bent_numbers(held, chance), what),)
    if what[0] == "call":
        return ((n, held, ("call", bent(what[1], chance))),)
    if what[0] == "ask":
        return ((n, held, ("ask", 1 - what[1])),)
    if sort == 3:
        return ((n, held, chance.choice(steps)[2]),)
    number = chance.randrange(4)
    return ((n, held, (what[0], number, what[2]) if sort == 4 else (what[0], what[1], number)),)


class ManyTest(CheckerTest):
    def test_runs_and_their_cells(self):
        untrue = 0
        for seed in range(300):
            busy = Busy(seed)
            book = busy.book(busy.cells)
            self.is_right(book, busy.parts)
            self.tells(True, true_of, book, busy.cells)
            for _ in range(5):
                cells = busy.changed(2)
                there = busy.book(cells)
                self.is_right(there, busy.parts)
                self.tells(there == book, true_of, book, cells)
                untrue += there != book
        self.assertGreater(untrue, 300)

    def test_right_books_that_are_mostly_true_of_no_cells(self):
        for seed in range(300):
            busy = Busy(seed)
            wild = busy.wild_book()
            self.is_right(wild, busy.parts)
            self.tells(wild == busy.book(busy.cells), true_of, wild, busy.cells)

    def test_bent_books_beside_a_replay(self):
        told = {True: 0, False: 0}
        for seed in range(300):
            busy = Busy(seed)
            for _ in range(12):
                chain = bent(busy.book(busy.cells), busy.maker.chance)
                expected = is_replayed(busy.parts, chain)
                self.tells(expected, right, busy.parts, chain)
                told[expected] += 1
        self.assertGreater(min(told.values()), 100, told)


if __name__ == "__main__":
    unittest.main()

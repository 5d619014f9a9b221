"""Terms, statements and programs for the tests, and what the document says of them told once more in another way."""

import random

from againbook.errors import TooDeep, TooLong
from againbook.maker import made
from againbook.reader import read
from againbook.runner import BookRun, run

SIGNS = "+-*/<="
TOP = 10 ** 18


def num(number):
    return ("num", number)


def var(name):
    return ("var", name)


def op(sign, left, right):
    return ("op", sign, left, right)


def add(left, right):
    return op("+", left, right)


def sub(left, right):
    return op("-", left, right)


def body_of(text):
    return read("def main\n" + text + "\nend")[0][2]


def made_def(name, params, *body):
    return (name, tuple(params), tuple(body))


def one_def(*body):
    return (made_def("main", (), *body),)


def set_to(name, term):
    return ("set", name, term)


def read_to(name, term):
    return ("read", name, term)


def write(cell, term):
    return ("write", cell, term)


def call(name, f, *terms):
    return ("call", name, f, tuple(terms))


def when(term, body, other=()):
    return ("if", term, tuple(body), tuple(other))


def loop(term, *body):
    return ("while", term, tuple(body))


def give(term):
    return ("give", term)


class Maker:
    """Sound programs within the document's bounds, always the same ones for the same seed."""

    def __init__(self, seed):
        self.chance = random.Random(seed)

    def pick(self, things):
        return things[self.chance.randrange(len(things))]

    def number(self):
        return self.pick([0, 1, 2, 3, self.chance.randrange(20), TOP - 1])

    def term(self, depth):
        if depth == 0 or self.chance.randrange(3) == 0:
            return var(self.pick(self.names)) if self.chance.randrange(2) else num(self.number())
        return op(self.pick(SIGNS), self.term(depth - 1), self.term(depth - 1))

    def statement(self, depth):
        words = ["set", "set", "read", "read", "write", "write", "call", "if", "while", "give"]
        word = self.pick(words if depth < 5 else words[:7])
        if word == "set":
            return set_to(self.pick(self.names), self.term(3))
        if word == "read":
            return read_to(self.pick(self.names), self.term(1))
        if word == "write":
            return write(self.term(1), self.term(3))
        if word == "call":
            f = self.pick(sorted(self.counts))
            return call(self.pick(self.names), f, *[self.term(2) for _ in range(self.counts[f])])
        if word == "if":
            return when(self.term(2), self.body(depth + 1), self.body(depth + 1))
        if word == "while":
            return loop(self.term(2), *self.body(depth + 1))
        return give(self.term(2))

    def body(self, depth):
        many = self.chance.randrange(7 if depth == 0 else 3)
        return tuple([self.statement(depth) for _ in range(many)])

    def program(self):
        self.names = ["a", "b", "c", "x", "longname"]
        self.counts = {f: self.chance.randrange(4) for f in ["main", "f", "other"][:self.chance.randrange(1, 4)]}
        return tuple([(f, tuple(self.names[:many]), self.body(0)) for f, many in self.counts.items()])


class BusyMaker(Maker):
    """Programs that go round and call often and come to an end, on so few cells that a change of one mostly is read."""

    def number(self):
        return self.chance.randrange(4)

    def term(self, depth):
        if depth == 0 or self.chance.randrange(2):
            return var(self.pick(self.names)) if self.chance.randrange(3) else num(self.number())
        return op(self.pick("+-<="), self.term(depth - 1), self.term(depth - 1))

    def rounds(self, depth):
        name = "ij"[depth]
        often = op("<", var(name), num(self.chance.randrange(1, 4)))
        return set_to(name, num(0)), loop(often, *self.body(depth + 1), set_to(name, add(var(name), num(1))))

    def statements(self, depth):
        words = ["set", "read", "read", "read", "write", "write", "call", "call", "if", "while"]
        word = self.pick(words if depth < 2 else words[:8])
        if word == "set":
            return [set_to(self.pick(self.names), self.term(2))]
        if word == "read":
            return [read_to(self.pick(self.names), self.term(1))]
        if word == "write":
            return [write(self.term(0), self.term(1))]
        if word == "if":
            return [when(self.term(1), self.body(depth + 1), self.body(depth + 1))]
        if word == "while":
            return self.rounds(depth)
        # A def calls those behind it alone, so the calls end.
        later = sorted(f for f in self.counts if f > self.f)
        if not later:
            return [give(self.term(1))] if self.chance.randrange(4) == 0 else []
        f = self.pick(later)
        return [call(self.pick(self.names), f, *[self.term(0) for _ in range(self.counts[f])])]

    def body(self, depth):
        many = self.chance.randrange(2, 6) if depth == 0 else self.chance.randrange(1, 3)
        return tuple([one for _ in range(many) for one in self.statements(depth)])

    def program(self):
        self.names = ["a", "b", "x"]
        self.counts = {"f": 2, "g": 1, "h": 1}
        defs = []
        for self.f, many in self.counts.items():
            defs.append((self.f, tuple(self.names[:many]), self.body(0) + (give(self.term(1)),)))
        return tuple(defs)

    def cells(self):
        return {cell: self.number() for cell in range(4)}


def made_programs(many):
    return [Maker(seed).program() for seed in range(many)]


def variables(term):
    if term[0] == "op":
        return variables(term[2]) | variables(term[3])
    return {term[1]} if term[0] == "var" else set()


def passed(statement, rest):
    """A statement's own terms, the variable that it puts into, and each row of statements that may be done next."""
    word = statement[0]
    if word in ("set", "read"):
        return [statement[2]], statement[1], [rest]
    if word == "write":
        return [statement[1], statement[2]], None, [rest]
    if word == "call":
        return list(statement[3]), statement[1], [rest]
    if word == "if":
        return [statement[1]], None, [statement[2] + rest, statement[3] + rest]
    if word == "while":
        return [statement[1]], None, [statement[2] + (statement,) + rest, rest]
    return [statement[1]], None, []


def is_used_ahead(name, todo, behind=()):
    """Whether a variable is used ahead, by going each way on from a row of statements."""
    seen = set()
    waiting = [todo]
    while waiting:
        todo = waiting.pop()
        if todo in seen:
            continue
        seen.add(todo)
        if not todo:
            if name in behind:
                return True
            continue
        terms, put, ways = passed(todo[0], todo[1:])
        if any(name in variables(term) for term in terms):
            return True
        if put != name:
            waiting.extend(ways)
    return False


def numbered(body, numbers):
    """The statements, each cut with its number as one thing more at its end."""
    told = []
    for statement in body:
        if statement[0] in ("set", "give"):
            told.append(statement)
            continue
        n = next(numbers)
        if statement[0] == "if":
            first = numbered(statement[2], numbers)
            statement = statement[:2] + (first, numbered(statement[3], numbers))
        elif statement[0] == "while":
            statement = statement[:2] + (numbered(statement[2], numbers),)
        told.append(statement + (n,))
    return tuple(told)


class Given(Exception):
    pass


class Simple:
    """The plain run once more, by recursion and by the document's words, to lay the program's answers beside."""

    def __init__(self, program, cells, most):
        self.defs = {name: (params, body) for name, params, body in program}
        self.cells = dict(cells)
        self.written = {}
        self.turns = 0
        self.most = most

    def term(self, term, held):
        if term[0] != "op":
            return term[1] if term[0] == "num" else held.get(term[1], 0)
        left, right = self.term(term[2], held), self.term(term[3], held)
        whole = {"+": left + right, "-": left - right, "*": left * right, "/": left // right if right else 0,
                 "<": int(left < right), "=": int(left == right)}
        return whole[term[1]] % TOP

    def turn(self):
        if self.turns == self.most:
            raise TooLong()
        self.turns += 1

    def run(self, f, numbers, deep):
        params, body = self.defs[f]
        try:
            self.body(body, dict(zip(params, numbers)), deep)
        except Given as given:
            return given.args[0]
        return 0

    def body(self, body, held, deep):
        for statement in body:
            getattr(self, "do_" + statement[0])(held, deep, *statement[1:])

    def do_set(self, held, deep, name, term):
        held[name] = self.term(term, held)

    def do_read(self, held, deep, name, term):
        self.turn()
        cell = self.term(term, held)
        held[name] = {**self.cells, **self.written}.get(cell, 0)

    def do_write(self, held, deep, cell, term):
        self.turn()
        self.written[self.term(cell, held)] = self.term(term, held)

    def do_call(self, held, deep, name, f, terms):
        self.turn()
        if deep == 15:
            raise TooDeep()
        held[name] = self.run(f, [self.term(term, held) for term in terms], deep + 1)

    def do_if(self, held, deep, term, body, other):
        self.turn()
        self.body(body if self.term(term, held) else other, held, deep)

    def do_while(self, held, deep, term, body):
        self.turn()
        while self.term(term, held):
            self.body(body, held, deep)
            self.turn()

    def do_give(self, held, deep, term):
        raise Given(self.term(term, held))


def are_plain(value):
    """Whether nothing but tuples, texts and whole numbers that are no truths are in it."""
    if type(value) is tuple:
        return all(are_plain(one) for one in value)
    return type(value) in (str, int)


def told_or_refused(told, *handed):
    """What a function tells, or the class of its refusal."""
    try:
        return told(*handed)
    except (TooLong, TooDeep) as refusal:
        return type(refusal)


class WildRun(BookRun):
    """A run whose reads find this and that, so that its book is right, but mostly true of no cells."""

    def number_in(self, cell):
        return self.cells.number()


class Busy:
    """A program, numbers to begin with and cells, always the same ones for the same seed, and its books."""

    def __init__(self, seed):
        self.maker = BusyMaker(seed)
        self.parts = made(self.maker.program())
        self.args = (self.maker.number(), self.maker.number())
        self.cells = self.maker.cells()

    def book(self, cells, most=300):
        return run(self.parts, "f", self.args, cells, most)

    def wild_book(self):
        return WildRun(self.parts, self.maker, 300).chain_of(self.parts[0], self.args, 0)

    def changed(self, many):
        """The cells with so many of them put other, or put as they were."""
        cells = dict(self.cells)
        for _ in range(many):
            cells[self.maker.chance.randrange(4)] = self.maker.number()
        return cells


def steps_by_path(chain):
    steps = {}
    for number, step in enumerate(chain[2]):
        steps[number,] = step
        if step[2][0] == "call":
            for path, inner in steps_by_path(step[2][1]).items():
                steps[(number,) + path] = inner
    return steps

"""Terms, statements and programs for the tests."""

import random

SIGNS = "+-*/<="
TOP = 10 ** 18


def num(number):
    return ("num", number)


def var(name):
    return ("var", name)


def op(sign, left, right):
    return ("op", sign, left, right)


def made_def(name, params, *body):
    return (name, tuple(params), tuple(body))


def one_def(*body):
    return (made_def("main", (), *body),)


def set_to(name, term):
    return ("set", name, term)


def read_to(name, term):
    return ("read", name, term)


def write(cell, term):
    return ("write", cell, term)


def call(name, f, *terms):
    return ("call", name, f, tuple(terms))


def when(term, body, other=()):
    return ("if", term, tuple(body), tuple(other))


def loop(term, *body):
    return ("while", term, tuple(body))


def give(term):
    return ("give", term)


class Maker:
    """Sound programs within the document's bounds, always the same ones for the same seed."""

    def __init__(self, seed):
        self.chance = random.Random(seed)

    def pick(self, things):
        return things[self.chance.randrange(len(things))]

    def number(self):
        return self.pick([0, 1, 2, 3, self.chance.randrange(20), TOP - 1])

    def term(self, depth):
        if depth == 0 or self.chance.randrange(3) == 0:
            return var(self.pick(self.names)) if self.chance.randrange(2) else num(self.number())
        return op(self.pick(SIGNS), self.term(depth - 1), self.term(depth - 1))

    def statement(self, depth):
        words = ["set", "set", "read", "read", "write", "write", "call", "if", "while", "give"]
        word = self.pick(words if depth < 5 else words[:7])
        if word == "set":
            return set_to(self.pick(self.names), self.term(3))
        if word == "read":
            return read_to(self.pick(self.names), self.term(1))
        if word == "write":
            return write(self.term(1), self.term(3))
        if word == "call":
            f = self.pick(sorted(self.counts))
            return call(self.pick(self.names), f, *[self.term(2) for _ in range(self.counts[f])])
        if word == "if":
            return when(self.term(2), self.body(depth + 1), self.body(depth + 1))
        if word == "while":
            return loop(self.term(2), *self.body(depth + 1))
        return give(self.term(2))

    def body(self, depth):
        many = self.chance.randrange(7 if depth == 0 else 3)
        return tuple([self.statement(depth) for _ in range(many)])

    def program(self):
        self.names = ["a", "b", "c", "x", "longname"]
        self.counts = {f: self.chance.randrange(4) for f in ["main", "f", "other"][:self.chance.randrange(1, 4)]}
        return tuple([(f, tuple(self.names[:many]), self.body(0)) for f, many in self.counts.items()])


def made_programs(many):
    return [Maker(seed).program() for seed in range(many)]

"""The run of a cut program, kept as a book."""

from againbook.steps import deed_at, first_of, onward, part_of
from againbook.turns import Turns, begun, deeper


class BookRun(Turns):
    def __init__(self, parts, cells, most):
        Turns.__init__(self, cells, most)
        self.parts = parts

    def chain_of(self, part, args, deep):
        steps = []
        goal = first_of(part, args)
        while goal[0] == "go":
            what = self.what_of(deed_at(part, goal[1], goal[2]), deep)
            steps.append((goal[1], goal[2], what))
            goal = onward(part, steps[-1])
        return (part[0], args, tuple(steps), goal[1])

    def what_of(self, deed, deep):
        self.take_turn()
        if deed[0] == "read":
            return ("read", deed[1], self.number_in(deed[1]))
        if deed[0] == "call":
            return ("call", self.chain_of(part_of(self.parts, deed[1]), deed[2], deeper(deep)))
        if deed[0] == "write":
            self.left[deed[1]] = deed[2]
        return deed


def run(parts, f, args, cells, most):
    part = begun(parts, f, args)
    return BookRun(parts, cells, most).chain_of(part, args, 0)

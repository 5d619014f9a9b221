"""What the runs have in common: whom they begin with, how far they go, and what a cell holds in their midst."""

from againbook.errors import NoCount, NoName, TooDeep, TooLong

DEEPEST = 15


# Of defs and of parts alike: both have their name first and their params behind it.
def named(ones, f):
    for one in ones:
        if one[0] == f:
            return one
    raise NoName(f)


def begun(ones, f, args):
    one = named(ones, f)
    if len(args) != len(one[1]):
        raise NoCount(f)
    return one


def deeper(deep):
    if deep >= DEEPEST:
        raise TooDeep()
    return deep + 1


class Turns:
    def __init__(self, cells, most):
        self.cells = cells
        self.most = most
        self.left = {}
        self.turns = 0

    def take_turn(self):
        if self.turns >= self.most:
            raise TooLong()
        self.turns += 1

    def number_in(self, cell):
        return self.left[cell] if cell in self.left else self.cells.get(cell, 0)

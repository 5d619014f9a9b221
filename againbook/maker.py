"""Cutting a program into small parts: the cuts of each def, and the ways that lead from one to the next."""

from againbook.ahead import used_ahead_of
from againbook.sound import bodies_in
from againbook.terms import names_in

# What a def's end gives where no give came.
NOUGHT = ("num", 0)


def many_cuts(body):
    many = 0
    todo = list(body)
    while todo:
        statement = todo.pop()
        if statement[0] not in ("set", "give"):
            many += 1
        todo.extend(bodies_in(statement))
    return many


def deed_of(statement):
    if statement[0] in ("if", "while"):
        return ("ask", statement[1])
    return statement


# A place of a def is (names, way): the variables used ahead there, and the way that leads on from there.
def place_of_give(term):
    return (names_in(term), ((), ("give", term)))


def place_of_set(statement, behind):
    way = behind[1]
    if statement[1] in behind[0]:
        way = ((statement[1:],) + way[0], way[1])
    return (used_ahead_of(statement, behind[0]), way)


# The cuts of one def, found from the last one to the first: what is used ahead at a place, and how its way goes on,
# hangs on what stands behind it.
class Cutting:
    def __init__(self, body):
        self.many = many_cuts(body)
        self.found = []

    def place_of_body(self, body, behind):
        place = behind
        for statement in reversed(body):
            place = self.place_of(statement, place)
        return place

    def place_of(self, statement, behind):
        if statement[0] == "give":
            return place_of_give(statement[1])
        if statement[0] == "set":
            return place_of_set(statement, behind)
        return self.place_of_cut(statement, behind)

    def place_of_cut(self, statement, behind):
        n = self.many - len(self.found) - many_cuts((statement,))
        names = used_ahead_of(statement, behind[0])
        place = (names, ((), ("go", n)))
        ways = self.ways_of(statement, place, behind)
        self.found.append((tuple(names), deed_of(statement), ways))
        return place

    # The if's other body comes first, because it is the last one in the text.
    def ways_of(self, statement, place, behind):
        if statement[0] == "if":
            other = self.place_of_body(statement[3], behind)
            return (self.place_of_body(statement[2], behind)[1], other[1])
        if statement[0] == "while":
            return (self.place_of_body(statement[2], place)[1], behind[1])
        return (behind[1],)


def part_made(name, params, body):
    cutting = Cutting(body)
    first = cutting.place_of_body(body, place_of_give(NOUGHT))
    return (name, params, first[1], tuple(reversed(cutting.found)))


def made(program):
    return tuple([part_made(name, params, body) for name, params, body in program])

"""The plain run of a program: statement by statement, with no book kept."""

from againbook.terms import worth
from againbook.turns import Turns, begun, deeper, named


# What an asking puts next to be done, the last statement first. A while that goes round stands behind its own body,
# so that it is asked again.
def behind_asking(statement, held):
    if worth(statement[1], held) != 0:
        again = [statement] if statement[0] == "while" else []
        return again + list(reversed(statement[2]))
    if statement[0] == "if":
        return list(reversed(statement[3]))
    return []


class PlainRun(Turns):
    def __init__(self, program, cells, most):
        Turns.__init__(self, cells, most)
        self.program = program

    def answer_of(self, one, args, deep):
        held = dict(zip(one[1], args))
        todo = list(reversed(one[2]))
        while todo:
            statement = todo.pop()
            if statement[0] == "give":
                return worth(statement[1], held)
            self.do(statement, held, todo, deep)
        return 0

    def do(self, statement, held, todo, deep):
        word = statement[0]
        if word == "set":
            held[statement[1]] = worth(statement[2], held)
            return
        self.take_turn()
        if word == "read":
            held[statement[1]] = self.number_in(worth(statement[2], held))
        elif word == "write":
            self.left[worth(statement[1], held)] = worth(statement[2], held)
        elif word == "call":
            held[statement[1]] = self.called(statement, held, deeper(deep))
        else:
            todo.extend(behind_asking(statement, held))

    def called(self, statement, held, deep):
        args = tuple([worth(term, held) for term in statement[3]])
        return self.answer_of(named(self.program, statement[2]), args, deep)


def plain(program, f, args, cells, most):
    one = begun(program, f, args)
    run = PlainRun(program, cells, most)
    answer = run.answer_of(one, args, 0)
    return (answer, run.left, run.turns)

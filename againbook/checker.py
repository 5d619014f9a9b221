"""Whether a book is right by a cut program, and whether it is true of cells."""

from againbook.books import whats
from againbook.errors import NoCount, NoName
from againbook.steps import deed_at, deed_in, first_of, goal_at, onward
from againbook.turns import begun


def right(parts, chain):
    try:
        part = begun(parts, chain[0], chain[1])
    except (NoName, NoCount):
        return False
    goal = first_of(part, chain[1])
    for number, step in enumerate(chain[2]):
        # A goal is always one of the part's cuts with the numbers of its params, so the step behind this is, too.
        if goal != goal_at(chain, number) or not is_done(parts, part, step):
            return False
        goal = onward(part, step)
    return goal == goal_at(chain, len(chain[2]))


def is_done(parts, part, step):
    if deed_in(step[2]) != deed_at(part, step[0], step[1]):
        return False
    return step[2][0] != "call" or right(parts, step[2][1])


def true_of(chain, cells):
    held = dict(cells)
    for path, what in whats(chain):
        if what[0] == "write":
            held[what[1]] = what[2]
        elif what[0] == "read" and what[2] != held.get(what[1], 0):
            return False
    return True

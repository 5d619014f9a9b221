"""Books looked at: the paths of their steps, what they leave in the cells, and what a read sees."""

from againbook.errors import NoStep


# Pairs of a path and what was done there, in the book's order: of a step at this path, and of all steps within it.
def whats_at(path, what):
    within = whats_in(path, what[1]) if what[0] == "call" else []
    return [(path, what)] + within


def whats_in(path, chain):
    told = []
    for number, step in enumerate(chain[2]):
        told.extend(whats_at(path + (number,), step[2]))
    return told


def whats(chain):
    return whats_in((), chain)


def paths_at(path, what):
    return [one for one, done in whats_at(path, what)]


def paths(chain):
    return [path for path, what in whats(chain)]


def step_at(chain, path):
    if path == () or not 0 <= path[0] < len(chain[2]):
        raise NoStep()
    step = chain[2][path[0]]
    if len(path) == 1:
        return step
    if step[2][0] != "call":
        raise NoStep()
    return step_at(step[2][1], path[1:])


def left(chain):
    cells = {}
    for path, what in whats(chain):
        if what[0] == "write":
            cells[what[1]] = what[2]
    return cells


def seen(chain, path):
    reading = step_at(chain, path)[2]
    if reading[0] != "read":
        raise NoStep()
    last = None
    for other, what in whats(chain):
        if other < path and what[:2] == ("write", reading[1]):
            last = other
    return last

"""Steps: what the deed of a cut needs, what a step did and found, and where it leads."""

from againbook.terms import worth
from againbook.turns import named


def part_of(parts, f):
    return named(parts, f)


def cut_at(part, n):
    return part[3][n]


def held_at(part, n, held):
    return dict(zip(cut_at(part, n)[0], held))


def worths(terms, numbers):
    return tuple([worth(term, numbers) for term in terms])


def deed_at(part, n, held):
    numbers = held_at(part, n, held)
    deed = cut_at(part, n)[1]
    word = deed[0]
    if word == "ask":
        return (word, 0 if worth(deed[1], numbers) == 0 else 1)
    if word == "call":
        return (word, deed[2], worths(deed[3], numbers))
    if word == "read":
        return (word, worth(deed[2], numbers))
    return (word,) + worths(deed[1:], numbers)


# What the deed of a step needed, told as deed_at tells it, but out of what was done.
def deed_in(what):
    if what[0] == "read":
        return what[:2]
    if what[0] == "call":
        return ("call",) + what[1][:2]
    return what


def found_in(what):
    return what[1][3] if what[0] == "call" else what[-1]


# Where a way leads from these numbers, which are the way's own to change.
def end_of(part, way, numbers):
    for name, term in way[0]:
        numbers[name] = worth(term, numbers)
    goal = way[1]
    if goal[0] == "give":
        return ("give", worth(goal[1], numbers))
    held = [numbers.get(name, 0) for name in cut_at(part, goal[1])[0]]
    return ("go", goal[1], tuple(held))


def first_of(part, args):
    return end_of(part, part[2], dict(zip(part[1], args)))


def onward(part, step):
    cut = cut_at(part, step[0])
    numbers = held_at(part, step[0], step[1])
    what = step[2]
    if what[0] in ("read", "call"):
        numbers[cut[1][1]] = found_in(what)
    way = cut[2][1] if what == ("ask", 0) else cut[2][0]
    return end_of(part, way, numbers)


# Where a chain goes ahead of its step of this number, or behind its last one, told as first_of and onward tell it.
def goal_at(chain, number):
    if number == len(chain[2]):
        return ("give", chain[3])
    return ("go",) + chain[2][number][:2]

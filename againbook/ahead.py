"""Which variables are used ahead: those that on some way on stand in a term before they are put into."""

from againbook.terms import names_in


# The terms of a statement itself, without those of the statements in it.
def own_terms(statement):
    word = statement[0]
    if word in ("set", "read"):
        return statement[2:]
    if word == "write":
        return statement[1:]
    if word == "call":
        return statement[3]
    return statement[1:2]


# Those used ahead once the statement's own terms are passed.
def used_behind_terms(statement, behind):
    word = statement[0]
    if word in ("set", "read", "call"):
        return [name for name in behind if name != statement[1]]
    if word == "if":
        return used_ahead(statement[2], behind) + used_ahead(statement[3], behind)
    if word == "while":
        # One look at the body is enough: what is used ahead at its end is so at the asking, and adds nothing there.
        return used_ahead(statement[2], []) + behind
    if word == "give":
        return []
    return behind


def used_ahead_of(statement, behind):
    names = list(used_behind_terms(statement, behind))
    for term in own_terms(statement):
        names.extend(names_in(term))
    return sorted(set(names))


def used_ahead(body, behind):
    names = sorted(behind)
    for statement in reversed(body):
        names = used_ahead_of(statement, names)
    return names

"""Terms: what they come to, which variables stand in them, and how they are written."""

from againbook.words import TOP


# The comparisons tell 1 and 0, not True and False: a truth is no number.
def joined(sign, left, right):
    if sign == "+":
        return (left + right) % TOP
    if sign == "-":
        return (left - right) % TOP
    if sign == "*":
        return left * right % TOP
    if sign == "/":
        return 0 if right == 0 else left // right
    if sign == "<":
        return 1 if left < right else 0
    return 1 if left == right else 0


def worth(term, held):
    if term[0] == "num":
        return term[1]
    if term[0] == "var":
        return held.get(term[1], 0)
    return joined(term[1], worth(term[2], held), worth(term[3], held))


def names_in(term):
    if term[0] == "num":
        return []
    if term[0] == "var":
        return [term[1]]
    return sorted(set(names_in(term[2]) + names_in(term[3])))


def term_text(term):
    if term[0] == "num":
        return str(term[1])
    if term[0] == "var":
        return term[1]
    sign = term[1]
    left = term_text(term[2])
    right = term_text(term[3])
    return f"({sign} {left} {right})"

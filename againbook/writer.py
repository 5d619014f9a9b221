"""Writing a program as a text, row by row."""

from againbook.terms import term_text


def words_of(statement):
    word = statement[0]
    if word in ("set", "read"):
        return [word, statement[1], term_text(statement[2])]
    if word == "write":
        return [word, term_text(statement[1]), term_text(statement[2])]
    if word == "call":
        return [word, statement[1], statement[2]] + [term_text(term) for term in statement[3]]
    if word in ("if", "while", "give"):
        return [word, term_text(statement[1])]
    return [word]


def row_of(words, depth):
    return "  " * depth + " ".join(words)


def placed(body, depth):
    return [(statement, depth) for statement in body]


# What follows a statement's first row. Its else and end go along as if they were statements, so that one loop writes
# every row, however deep it stands.
def behind_first(statement, depth):
    if statement[0] == "if":
        first = placed(statement[2], depth + 1) + [(("else",), depth)]
        return first + placed(statement[3], depth + 1) + [(("end",), depth)]
    if statement[0] == "while":
        return placed(statement[2], depth + 1) + [(("end",), depth)]
    return []


def body_rows(body):
    rows = []
    todo = list(reversed(placed(body, 1)))
    while todo:
        pair = todo.pop()
        rows.append(row_of(words_of(pair[0]), pair[1]))
        todo.extend(list(reversed(behind_first(pair[0], pair[1]))))
    return rows


def shown(program):
    rows = []
    for name, params, body in program:
        rows.append(row_of(["def", name] + list(params), 0))
        rows.extend(body_rows(body))
        rows.append("end")
    return "\n".join(rows)

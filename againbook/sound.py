"""Whether a program is sound: no name twice, and each call of a def that is there, with as many terms as it needs."""

from againbook.errors import NoCount, NoName, Twice


def refuse_twice(names):
    before = {}
    for name in names:
        if name in before:
            raise Twice(name)
        before[name] = True


def bodies_in(statement):
    if statement[0] == "if":
        return statement[2] + statement[3]
    if statement[0] == "while":
        return statement[2]
    return ()


def calls_in(body):
    calls = []
    todo = list(reversed(body))
    while todo:
        statement = todo.pop()
        if statement[0] == "call":
            calls.append(statement)
        todo.extend(list(reversed(bodies_in(statement))))
    return calls


def refuse_call(call, counts):
    name = call[2]
    if name not in counts:
        raise NoName(name)
    if len(call[3]) != counts[name]:
        raise NoCount(name)


def sound(program):
    refuse_twice([name for name, params, body in program])
    counts = dict([(name, len(params)) for name, params, body in program])
    for name, params, body in program:
        refuse_twice(params)
        for call in calls_in(body):
            refuse_call(call, counts)
    return True

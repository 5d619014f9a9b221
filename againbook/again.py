"""A new book of an old one: the old one is gone along, and what is still alike is taken over."""

from againbook.books import paths_at
from againbook.laying import lender_from, like_from
from againbook.runner import BookRun
from againbook.steps import deed_at, deed_in, found_in, goal_at, onward, part_of
from againbook.turns import deeper


def chain_taken(steps, at):
    if at is None or steps[at][2][0] != "call":
        return None
    return steps[at][2][1]


class AgainRun(BookRun):
    def __init__(self, parts, cells, most):
        BookRun.__init__(self, parts, cells, most)
        self.anew = []

    # The new chain has the old one's def and args, so it goes the same way as long as it finds the same.
    def chain_along(self, path, old, deep):
        part = part_of(self.parts, old[0])
        steps = []
        mark = 0
        goal = goal_at(old, mark)
        while goal[0] == "go":
            here = path + (len(steps),)
            like = like_from(old[2], mark, goal[1:])
            if like is None:
                deed = deed_at(part, goal[1], goal[2])
                taken = lender_from(old[2], mark, deed)
            else:
                deed = deed_in(old[2][like][2])
                taken = like
            mark = mark if taken is None else taken + 1
            step = goal[1:] + (self.what_along(here, chain_taken(old[2], taken), deed, deep),)
            steps.append(step)
            if like is not None and found_in(step[2]) == found_in(old[2][like][2]):
                goal = goal_at(old, mark)
            else:
                self.anew.append(here)
                goal = onward(part, step)
        return (old[0], old[1], tuple(steps), goal[1])

    def what_along(self, path, old, deed, deep):
        if old is None:
            what = self.what_of(deed, deep)
            self.anew.extend(paths_at(path, what)[1:])
            return what
        self.take_turn()
        return ("call", self.chain_along(path, old, deeper(deep)))


def again(parts, old, cells, most):
    running = AgainRun(parts, cells, most)
    chain = running.chain_along((), old, 0)
    return (chain, sorted(running.anew))

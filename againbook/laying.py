"""Two books of one def and the same args, laid side by side."""

from againbook.books import paths_at
from againbook.steps import deed_in, found_in


# The number of the first step from the mark on that stands at this cut with the same held, or None.
def like_from(steps, mark, cut):
    for at in range(mark, len(steps)):
        if steps[at][:2] == cut:
            return at
    return None


# The number of the first step from the mark on that calls the same def with the same args, or None.
def lender_from(steps, mark, deed):
    if deed[0] != "call":
        return None
    for at in range(mark, len(steps)):
        if deed_in(steps[at][2]) == deed:
            return at
    return None


def taken_from(steps, mark, step):
    like = like_from(steps, mark, step[:2])
    return lender_from(steps, mark, deed_in(step[2])) if like is None else like


class Laying:
    def __init__(self):
        self.kept = []
        self.turned = []
        self.fresh = []
        self.dropped = []

    # Both chains are gone through in order, so each list is sorted as it grows.
    def lay(self, old_path, old, new_path, new):
        mark = 0
        for number, step in enumerate(new[2]):
            here = new_path + (number,)
            taken = taken_from(old[2], mark, step)
            if taken is None:
                self.fresh.extend(paths_at(here, step[2]))
            else:
                self.drop(old_path, old, mark, taken)
                self.lay_step(old_path + (taken,), old[2][taken], here, step)
                mark = taken + 1
        self.drop(old_path, old, mark, len(old[2]))

    def drop(self, path, chain, begin, end):
        for at in range(begin, end):
            self.dropped.extend(paths_at(path + (at,), chain[2][at][2]))

    def lay_step(self, old_path, old, new_path, new):
        if old[:2] != new[:2]:
            self.fresh.append(new_path)
            self.dropped.append(old_path)
        elif found_in(old[2]) == found_in(new[2]):
            self.kept.append((old_path, new_path))
        else:
            self.turned.append((old_path, new_path))
        if new[2][0] == "call":
            self.lay(old_path, old[2][1], new_path, new[2][1])


def laid(old, new):
    laying = Laying()
    laying.lay((), old, (), new)
    return (laying.kept, laying.turned, laying.fresh, laying.dropped)


def distance(old, new):
    return sum([len(row) for row in laid(old, new)[1:]])

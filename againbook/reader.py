"""Reading a program's text, row by row: the first row that can't stand where it does is refused."""

from againbook.errors import NoText
from againbook.words import is_name, is_number

SIGNS = ("+", "-", "*", "/", "<", "=")

# Behind a row's first word: how many names, then how many terms (None: any number of them).
SHAPES = {
    "set": (1, 1),
    "read": (1, 1),
    "write": (0, 2),
    "call": (2, None),
    "give": (0, 1),
    "if": (0, 1),
    "while": (0, 1),
    "else": (0, 0),
    "end": (0, 0),
}


# Parted at blanks alone: Python's own parting would take tabs and their like for blanks, too.
def words_of(row):
    parted = row.replace("(", " ( ").replace(")", " ) ")
    return [word for word in parted.split(" ") if word != ""]


# A sign stays a text, so that it can be told from a term until its bracket is closed.
def piece_of(word):
    if word in SIGNS:
        return word
    if is_name(word):
        return ("var", word)
    if is_number(word):
        return ("num", int(word))
    return None


def are_terms(pieces):
    return all([isinstance(piece, tuple) for piece in pieces])


def op_of(pieces):
    if len(pieces) == 3 and pieces[0] in SIGNS and are_terms(pieces[1:]):
        return ("op", pieces[0], pieces[1], pieces[2])
    return None


# A list of levels and no recursion: a text that is to be refused may nest its brackets by the thousand.
def terms_of(words):
    levels = [[]]
    for word in words:
        if word == "(":
            levels.append([])
            continue
        piece = op_of(levels.pop()) if word == ")" else piece_of(word)
        if piece is None or not levels:
            return None
        levels[-1].append(piece)
    if len(levels) > 1 or not are_terms(levels[0]):
        return None
    return levels[0]


def are_names(words):
    return all([is_name(word) for word in words])


def def_row(words):
    if len(words) < 2 or not are_names(words[1:]):
        return None
    return ("def", words[1], tuple(words[2:]))


# A row as the begin of its statement; None where it is no row of a program.
def row_of(words):
    word = words[0]
    if word == "def":
        return def_row(words)
    if word not in SHAPES:
        return None
    many_names = SHAPES[word][0]
    many_terms = SHAPES[word][1]
    names = words[1:1 + many_names]
    terms = terms_of(words[1 + many_names:])
    if len(names) < many_names or not are_names(names) or terms is None:
        return None
    if many_terms is None:
        return (word,) + tuple(names) + (tuple(terms),)
    if len(terms) != many_terms:
        return None
    return (word,) + tuple(names) + tuple(terms)


# A def, if or while whose end hasn't come yet; an if has its second body from its else on.
class Block:
    def __init__(self, head):
        self.head = head
        self.bodies = [[]]

    def awaits_else(self):
        return self.head[0] == "if" and len(self.bodies) == 1

    def whole(self):
        return self.head + tuple([tuple(body) for body in self.bodies])


class Reading:
    def __init__(self):
        self.defs = []
        self.blocks = []

    def fits(self, word):
        if not self.blocks:
            return word == "def"
        if word == "else":
            return self.blocks[-1].awaits_else()
        if word == "end":
            return not self.blocks[-1].awaits_else()
        return word != "def"

    def take(self, row):
        if row[0] in ("def", "if", "while"):
            self.blocks.append(Block(row))
        elif row[0] == "else":
            self.blocks[-1].bodies.append([])
        elif row[0] == "end":
            self.finish(self.blocks.pop())
        else:
            self.blocks[-1].bodies[-1].append(row)

    def finish(self, block):
        if self.blocks:
            self.blocks[-1].bodies[-1].append(block.whole())
        else:
            # A def of a program is told without its first word, other than a statement.
            self.defs.append(block.whole()[1:])


def read(text):
    reading = Reading()
    rows = text.split("\n")
    for line, row in enumerate(rows, start=1):
        words = words_of(row)
        if not words:
            continue
        taken = row_of(words)
        if taken is None or not reading.fits(taken[0]):
            raise NoText(line)
        reading.take(taken)
    if reading.blocks:
        raise NoText(len(rows) + 1)
    return tuple(reading.defs)

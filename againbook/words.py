"""Words of a program's text: which are names, and which are numbers."""

TOP = 1_000_000_000_000_000_000

MOST_LETTERS = 8

# As many as TOP - 1 has, so a text of more would be no number below TOP.
MOST_FIGURES = 18

LETTERS = "abcdefghijklmnopqrstuvwxyz"
FIGURES = "0123456789"

RESERVED = ("def", "set", "read", "write", "call", "if", "else", "while", "give", "end")


# Python's isalpha and isdigit would let letters and figures of other scripts through.
def made_of(text, signs):
    return all([sign in signs for sign in text])


def is_name(text):
    return 1 <= len(text) <= MOST_LETTERS and made_of(text, LETTERS) and text not in RESERVED


def is_number(text):
    if not (1 <= len(text) <= MOST_FIGURES and made_of(text, FIGURES)):
        return False
    return text == "0" or text[0] != "0"

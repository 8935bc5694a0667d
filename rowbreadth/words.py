"""The words of a line, and which of them are names and numbers."""

from rowbreadth.reckon import kept

LETTERS = "abcdefghijklmnopqrstuvwxyz"
FIGURES = "0123456789"
LONGEST_NAME = 12
# As many figures as the greatest kept number has.
MOST_FIGURES = 19
KEPT_WORDS = (
    "row", "def", "let", "put", "fold", "run", "till", "end", "at", "in", "of", "into", "where", "most", "here",
    "shift", "if", "rest", "least", "sum", "product", "both", "either", "odd", "chain", "capped",
)


def words_of(line):
    apart = line.replace("(", " ( ").replace(")", " ) ")
    return [word for word in apart.split(" ") if word != ""]


def is_made_of(word, signs):
    return all([sign in signs for sign in word])


def is_name(word):
    return 1 <= len(word) <= LONGEST_NAME and is_made_of(word, LETTERS) and word not in KEPT_WORDS


def figures_of(word):
    if word.startswith("-"):
        return word[1:]
    return word


# Longer ones are never kept, and Python itself refuses to read the longest.
def is_written_as_number(word):
    figures = figures_of(word)
    if not 1 <= len(figures) <= MOST_FIGURES or not is_made_of(figures, FIGURES):
        return False
    return word == "0" or not figures.startswith("0")


# Tells None where the word is no number.
def number_in(word):
    if not is_written_as_number(word):
        return None
    number = int(word)
    if kept(number) != number:
        return None
    return number

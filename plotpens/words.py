"""The words of program texts: which ones there are, where they may stand, and how they are written otherwise."""

from plotpens.checks import MOST_TIMES, is_decimal

LETTERS = ("f", "b", "l", "r", "u", "d")
MOST_WORDS = 1000
MOST_DEPTH = 12
MIRRORED = {"l": "r", "r": "l"}
UNDONE = {"f": "b", "b": "f", "l": "r", "r": "l"}


def words_of(text):
    """The words between single spaces; the empty text has none."""
    if text == "":
        return []
    return text.split(" ")


def is_letter(value):
    """Whether any value is one of the six letters."""
    return isinstance(value, str) and value in LETTERS


def number_of(word):
    """How many times a word of a program text stands for its letter, or closes its repeat."""
    if len(word) == 1:
        return 1
    return int(word[1:])


def wrong_word(words, names):
    """The number of the first word with which no program text goes on, len(words) if only words are missing
    behind, None if nothing is wrong. The names may stand as words, too."""
    depth = 0
    for at, word in enumerate(words):
        opens = word == "("
        closes = word.startswith(")")
        if not (opens or word in names or _is_counted(word)):
            return at
        if closes and (depth == 0 or words[at - 1] == "("):
            return at
        depth = depth + int(opens) - int(closes)
        # A bracket that has just been opened needs a word and its closing bracket.
        needed = depth + int(opens)
        if depth > MOST_DEPTH or at + 1 + needed > MOST_WORDS:
            return at
    if depth > 0:
        return len(words)
    return None


def mirrored(words):
    """The words with left and right exchanged."""
    return [MIRRORED.get(word[0], word[0]) + word[1:] for word in words]


def backward(words):
    """The words that lead back: in opposite order, each step undone; there must be no pen among them."""
    found = []
    numbers = []
    for word in reversed(words):
        if word.startswith(")"):
            numbers.append(word[1:])
            found.append("(")
        elif word == "(":
            found.append(")" + numbers.pop())
        else:
            found.append(UNDONE[word[0]] + word[1:])
    return found


def _is_counted(word):
    """Whether a word is a letter, a letter with a number, or a closing bracket with its number."""
    if is_letter(word):
        return True
    return (is_letter(word[:1]) or word.startswith(")")) and _is_number(word[1:])


def _is_number(digits):
    return is_decimal(digits) and 2 <= int(digits) <= MOST_TIMES

"""What several tests need: written-out steps by another way than the package's, and odd values."""

import itertools


class Same:
    """A value that says it is equal to every other one."""

    def __eq__(self, other):
        return True


WRONG_VALUES = [None, True, False, 0, 5, -1, 10 ** 99, b"f", ["f"], ("f",), {"f": 1}, {"f"}, object(), len, ValueError,
                Same()]
STEPS = "fblrud"


def inner_repeat(words):
    """The places of a repeat without repeats in it, or None."""
    start = None
    for at, word in enumerate(words):
        if word == "(":
            start = at
        elif word.startswith(")"):
            return None if start is None else (start, at)
    return None


def number_in(word):
    return int(word[1:] or "1")


def is_text(words):
    """Whether short words are those of a program text: repeats are replaced by a letter until none is left."""
    words = list(words)
    while True:
        found = inner_repeat(words)
        if found is None:
            return all(is_plain(word) for word in words)
        start, end = found
        inside = words[start + 1:end]
        if not inside or not all(is_plain(word) for word in inside) or not is_plain("f" + words[end][1:]):
            return False
        if words[end] == ")":
            return False
        words[start:end + 1] = ["f"]


def is_plain(word):
    if word in list(STEPS):
        return True
    return word != "" and word[0] in STEPS and word[1:] in [str(number) for number in range(2, 100)]


def can_go_on(words):
    """Whether a program text begins with short words."""
    endings = [["f"] * body + [")2"] * closed for body in range(2) for closed in range(8)]
    return any(is_text(list(words) + ending) for ending in endings)


def first_wrong(words):
    """The index of InvalidText for short words, None for a program text."""
    for at in range(len(words)):
        if not can_go_on(words[:at + 1]):
            return at
    return None if is_text(words) else len(words)


def all_steps(text):
    """All steps of a short program, written out from the innermost repeats on."""
    words = text.split(" ") if text else []
    while True:
        found = inner_repeat(words)
        if found is None:
            return "".join(word[0] * number_in(word) for word in words)
        start, end = found
        words[start:end + 1] = words[start + 1:end] * number_in(words[end])


def short_texts():
    """Program texts of up to six words, of all kinds of words."""
    kinds = ["f", "l2", "u", "(", ")3"]
    found = []
    for many in range(7):
        for words in itertools.product(kinds, repeat=many):
            if is_text(words):
                found.append(" ".join(words))
    return found


def nested(depth, inside="f", number=2):
    """A text with repeats nested so deep."""
    return " ".join(["("] * depth + [inside] + [f"){number}"] * depth)

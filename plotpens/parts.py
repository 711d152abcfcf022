"""The parts of a program: what stands behind what, and what stands within which repeat."""

from plotpens.words import number_of


class Part:
    """A letter so many times, or inner parts so many times; then the letter is the empty string."""

    def __init__(self, letter, times, inner):
        self.letter = letter
        self.times = times
        self.inner = inner
        self.unit = size_of(inner) if inner else 1
        self.size = self.unit * times
        self.levels = 1 + levels_of(inner) if inner else 0


def size_of(parts):
    """How many steps there are in all."""
    return sum([part.size for part in parts])


def levels_of(parts):
    """How deep repeats are nested."""
    return max([part.levels for part in parts], default=0)


def parts_of_words(words):
    """The tuple of the parts of the words of a program text."""
    parts, _ = _parts_from(words, 0)
    return parts


def _parts_from(words, start):
    """The parts from a word on to the end of its repeat, and the number of the word behind them."""
    parts = []
    at = start
    while at < len(words) and not words[at].startswith(")"):
        if words[at] == "(":
            inner, at = _parts_from(words, at + 1)
            parts.append(Part("", number_of(words[at]), inner))
        else:
            parts.append(Part(words[at][0], number_of(words[at]), ()))
        at = at + 1
    return tuple(parts), at


def step_in(parts, index):
    """The step with an index, which is less than the number of steps."""
    at = 0
    while index >= parts[at].size:
        index = index - parts[at].size
        at = at + 1
    part = parts[at]
    if part.inner:
        return step_in(part.inner, index % part.unit)
    return part.letter


def count_in(parts, letter):
    """The number of the steps that are this letter."""
    total = 0
    for part in parts:
        once = count_in(part.inner, letter) if part.inner else int(part.letter == letter)
        total = total + part.times * once
    return total


def steps_in(parts, index):
    """Yields the steps from an index on, to the end."""
    for part in parts:
        if index < part.size:
            yield from _steps_of_part(part, index)
        index = max(index - part.size, 0)


def _steps_of_part(part, index):
    if part.inner:
        yield from _steps_of_repeat(part, index)
    else:
        left = part.times - index
        while left > 0:
            yield part.letter
            left = left - 1


def _steps_of_repeat(part, index):
    rounds = part.times - index // part.unit
    rest = index % part.unit
    while rounds > 0:
        yield from steps_in(part.inner, rest)
        rest = 0
        rounds = rounds - 1

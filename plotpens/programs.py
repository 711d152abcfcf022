"""Programs of a plotter, and their steps."""

from plotpens.checks import check_times, is_integer_within
from plotpens.errors import HasPen, InvalidIndex, InvalidLetter, InvalidProgram, InvalidText, TooDeep, TooLarge
from plotpens.parts import count_in, levels_of, parts_of_words, size_of, step_in, steps_in
from plotpens.words import MOST_DEPTH, MOST_WORDS, backward, is_letter, mirrored, words_of, wrong_word

MOST_STEPS = 1000


class Program:
    """The steps that a program text stands for."""

    def __init__(self, text):
        check_text(text)
        self._text = text
        self._words = tuple(words_of(text))
        self._parts = parts_of_words(self._words)
        self._length = size_of(self._parts)
        self._depth = levels_of(self._parts)

    @property
    def text(self):
        return self._text

    @property
    def length(self):
        return self._length

    @property
    def depth(self):
        return self._depth

    def __len__(self):
        return len(self._words)

    def __eq__(self, other):
        return isinstance(other, Program) and self._text == other._text

    def __contains__(self, x):
        return is_letter(x) and count_in(self._parts, x) > 0

    def __add__(self, other):
        check_program(other)
        if len(self._words) + len(other._words) > MOST_WORDS:
            raise TooLarge(MOST_WORDS)
        return Program(" ".join(self._words + other._words))

    def __mul__(self, other):
        check_times(other)
        if other == 0:
            return Program("")
        if other == 1 or not self._words:
            return self
        if len(self._words) + 2 > MOST_WORDS:
            raise TooLarge(MOST_WORDS)
        if self._depth + 1 > MOST_DEPTH:
            raise TooDeep(MOST_DEPTH)
        return Program(f"( {self._text} ){other}")

    def __neg__(self):
        return Program(" ".join(mirrored(self._words)))

    def __invert__(self):
        if "u" in self or "d" in self:
            raise HasPen("steps that lift or lower the pen cannot be undone")
        return Program(" ".join(backward(self._words)))


def step_at(program, index):
    """The step with an index, from 0."""
    check_program(program)
    check_index(index, program.length - 1)
    return step_in(program._parts, index)


def steps_from(program, index):
    """Yields the steps from an index on, to the end."""
    check_program(program)
    check_index(index, program.length)
    yield from steps_in(program._parts, index)


def count_steps(program, letter):
    """The number of steps that are this letter."""
    check_program(program)
    if not is_letter(letter):
        raise InvalidLetter("not one of the six letters")
    return count_in(program._parts, letter)


def written(program):
    """The string of all steps."""
    check_program(program)
    check_length(program, MOST_STEPS)
    return "".join(steps_in(program._parts, 0))


def check_text(text):
    if not isinstance(text, str):
        raise InvalidText(None)
    wrong = wrong_word(words_of(text), ())
    if wrong is not None:
        raise InvalidText(wrong)


def check_program(program):
    if not isinstance(program, Program):
        raise InvalidProgram("not a Program")


def check_length(program, most):
    if program.length > most:
        raise TooLarge(most)


def check_index(index, most):
    if not is_integer_within(index, 0, most):
        raise InvalidIndex("not the index of a step")

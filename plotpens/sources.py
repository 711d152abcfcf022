"""Sources: programs written with names for what they use again and again."""

from plotpens.errors import InvalidName, InvalidSource, TooDeep, TooLarge
from plotpens.programs import Program
from plotpens.words import MOST_DEPTH, MOST_WORDS, words_of, wrong_word

MOST_LINES = 20
SHORTEST_NAME = 2
LONGEST_NAME = 8


def read_source(source):
    """The program of the last line."""
    named, last = _read_lines(source)
    return _program_of(last, named)


def routine(source, name):
    """The program of the line with a name."""
    named, _ = _read_lines(source)
    if not isinstance(name, str) or name not in named:
        raise InvalidName("not one of the names")
    return _program_of(named[name], named)


def names_of(source):
    """The list of the names, in order."""
    named, _ = _read_lines(source)
    return list(named)


def _read_lines(source):
    """The names in order, each with the words behind it, and the words of the last line."""
    if not isinstance(source, str):
        raise InvalidSource(None, None)
    lines = [words_of(line) for line in source.split("\n")]
    named = {}
    for at, words in enumerate(lines[:MOST_LINES]):
        last = at + 1 == len(lines)
        wrong = wrong_word(words, named) if last else _wrong_in_named(words, named)
        if wrong is not None:
            raise InvalidSource(at, wrong)
        if not last:
            named[_name_of(words)] = words[1:]
    if len(lines) > MOST_LINES:
        raise InvalidSource(MOST_LINES, 0)
    return named, lines[-1]


def _wrong_in_named(words, named):
    """What wrong_word tells, for a line that has to begin with a name of its own."""
    if not words or not _is_naming(words[0]) or _name_of(words) in named:
        return 0
    if len(words) == 1:
        return 1
    wrong = wrong_word(words[1:], named)
    return None if wrong is None else wrong + 1


def _is_naming(word):
    """Whether a word is a name with its colon."""
    if not word.endswith(":") or not SHORTEST_NAME + 1 <= len(word) <= LONGEST_NAME + 1:
        return False
    name = word[:-1]
    return name.isascii() and name.isalpha() and name.islower()


def _name_of(words):
    """The name of a line, without its colon."""
    return words[0][:-1]


def _program_of(words, named):
    """The program of words among which names may stand."""
    measures = {}
    for name in named:
        measures[name] = _measure(named[name], measures)
    many, deep = _measure(words, measures)
    if many > MOST_WORDS:
        raise TooLarge(MOST_WORDS)
    if deep > MOST_DEPTH:
        raise TooDeep(MOST_DEPTH)
    return Program(" ".join(_replaced(words, named)))


def _measure(words, measures):
    """How many words there are if names are replaced, and how deep their repeats are nested then."""
    # Only counted: what lines stand for doubles and redoubles, up to 1,000 ** 20 words.
    many = 0
    deep = 0
    level = 0
    for word in words:
        level = level + int(word == "(") - int(word.startswith(")"))
        more, levels = measures.get(word, (1, 0))
        many = many + more
        deep = max(deep, level + levels)
    return many, deep


def _replaced(words, named):
    """The words with all names replaced."""
    found = []
    for word in words:
        if word in named:
            found.extend(_replaced(named[word], named))
        else:
            found.append(word)
    return found

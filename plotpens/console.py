"""The console: rows of words that ask for what the package can do."""

from plotpens.art import show_art
from plotpens.checks import is_decimal
from plotpens.errors import InvalidCommand
from plotpens.faces import count_inside
from plotpens.far import count_edges, strokes_after
from plotpens.growth import growth_of
from plotpens.motions import motion_of
from plotpens.odds import odd_points
from plotpens.programs import Program
from plotpens.sheets import Sheet
from plotpens.strokes import fewest_plain, fewest_toggled
from plotpens.writing import packed, program_for

KEEPING = "program "
DONE = "ok"


def _pack(console):
    console._program = packed(console._program)
    return _answer_of_words(console._program.text)


def _plan(console):
    console._program = program_for(console._sheet.picture)
    return _answer_of_words(console._program.text)


def _tell_steps(console):
    return str(console._program.length)


def _tell_words(console):
    return str(len(console._program))


def _tell_motion(console):
    motion = motion_of(console._program)
    return _answer_of_numbers((motion.turn,) + motion.shift)


def _tell_growth(console):
    return _answer_of_numbers(growth_of(console._program))


def _tell_count(console, times):
    return str(count_edges(console._program, times))


def _tell_needed(console, times):
    return str(strokes_after(console._program, times))


def _play(console, times):
    return str(console._sheet.play(console._program, times=times))


def _wipe(console):
    console._sheet.wipe()
    return DONE


def _undo(console):
    console._sheet.undo()
    return DONE


def _tell_pose(console):
    return _answer_of_numbers(console._sheet.pose)


def _tell_edges(console):
    return str(len(console._sheet))


def _tell_odd(console):
    return _answer_of_words(" ".join([f"{x},{y}" for x, y in odd_points(console._sheet.picture)]))


def _tell_strokes(console):
    picture = console._sheet.picture
    return _answer_of_numbers((fewest_plain(picture), fewest_toggled(picture)))


def _tell_inside(console):
    return str(count_inside(console._sheet.picture))


def _tell_art(console, index):
    rows = show_art(console._sheet.picture)
    if index >= len(rows):
        raise InvalidCommand("the art has no row with this index")
    return rows[index]


def _answer_of_words(text):
    """An answer of words, of which there may be none."""
    return text if text else "-"


def _answer_of_numbers(numbers):
    """An answer of numbers."""
    return " ".join([str(number) for number in numbers])


PLAIN = {"pack": _pack, "plan": _plan, "wipe": _wipe, "undo": _undo, "steps": _tell_steps, "words": _tell_words,
         "motion": _tell_motion, "growth": _tell_growth, "pose": _tell_pose, "edges": _tell_edges, "odd": _tell_odd,
         "strokes": _tell_strokes, "inside": _tell_inside}
NUMBERED = {"play": _play, "art": _tell_art, "count": _tell_count, "needed": _tell_needed}


class Console:
    """A sheet and a program, and rows that are executed on them."""

    def __init__(self):
        self._sheet = Sheet()
        self._program = Program("")

    def say(self, row):
        """Executes a row; returns its answer."""
        if not isinstance(row, str) or "\n" in row:
            raise InvalidCommand("not a string without newlines")
        if row.startswith(KEEPING):
            self._program = Program(row.removeprefix(KEEPING))
            return DONE
        words = row.split(" ")
        if len(words) == 1 and row in PLAIN:
            answer = PLAIN[row]
            return answer(self)
        if len(words) == 2 and words[0] in NUMBERED and is_decimal(words[1]):
            answer = NUMBERED[words[0]]
            return answer(self, int(words[1]))
        if len(words) == 4 and words[0] == "jump" and _are_three_numbers(words[1:]):
            x, y, heading = [int(word) for word in words[1:]]
            self._sheet.jump((x, y, heading))
            return DONE
        raise InvalidCommand("not a row of a form that is known")


def _are_three_numbers(words):
    """Whether three words are numbers, of which the first two may be below 0."""
    return _is_signed(words[0]) and _is_signed(words[1]) and is_decimal(words[2])


def _is_signed(word):
    return word != "-0" and is_decimal(word.removeprefix("-"))

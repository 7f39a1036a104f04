"""Texts of drawings and of programs, there and back."""

from rulerchest.chests import check_drawing
from rulerchest.errors import BadProgramText, BadStepsText
from rulerchest.judging import SHEET_NAMES, is_name
from rulerchest.programlines import ProgramReader
from rulerchest.programs import are_set
from rulerchest.textlines import deed_of_words, deed_text, lines_of, text_of
from rulerchest.tools import deed_names
from rulerchest.unfolding import check_program


def steps_text(steps):
    """A line for each step."""
    check_drawing(steps)
    return text_of([f"{name} = {deed_text(deed)}" for name, deed in steps])


def steps_of(text):
    """The drawing with this text."""
    if not isinstance(text, str):
        raise BadStepsText(None)
    known = {name: True for name in SHEET_NAMES}
    steps = []
    for at, line in enumerate(lines_of(text)):
        words = line.split(" ")
        deed = deed_of_words(words[2:])
        # Each beginning of a drawing is one, so that a line is wrong by itself and those ahead of it.
        if words[1:2] != ["="] or not is_name(words[0]) or words[0] in known or deed is None:
            raise BadStepsText(at)
        if not are_set(deed_names(deed), known):
            raise BadStepsText(at)
        known[words[0]] = True
        steps.append((words[0], deed))
    return steps


def program_text(program):
    """The lines of each routine."""
    check_program(program)
    lines = []
    for name, params, block, results in program:
        lines.append(" ".join(("to", name) + params))
        lines.extend(block_lines(block, 1))
        lines.append("  " + " ".join(("give",) + results))
    return text_of(lines)


def block_lines(block, depth):
    """The lines of a block of this depth."""
    lines = []
    for statement in block:
        lines.extend(statement_lines(statement, depth))
    return lines


def statement_lines(statement, depth):
    """The lines of a statement of a block of this depth."""
    margin = "  " * depth
    match statement[0]:
        case "draw":
            return [f"{margin}{statement[1]} = {deed_text(statement[2])}"]
        case "is":
            return [f"{margin}{statement[1]} = {statement[2]}"]
        case "call":
            _, names, routine, args = statement
            return [margin + " ".join(names + (":=", routine) + args)]
        case "repeat":
            return [f"{margin}repeat {statement[1]}"] + block_lines(statement[2], depth + 1)
        case _:
            return if_lines(statement, depth)


def if_lines(statement, depth):
    """The lines of an if: else stands there only where the second block has statements."""
    _, question, first, second = statement
    margin = "  " * depth
    words = "can " + deed_text(question[1]) if question[0] == "can" else " ".join(question)
    lines = [f"{margin}if {words}"] + block_lines(first, depth + 1)
    if len(second) > 0:
        lines.append(margin + "else")
        lines.extend(block_lines(second, depth + 1))
    return lines


def program_of(text):
    """The program with this text, blocks being lists."""
    if not isinstance(text, str):
        raise BadProgramText(None)
    lines = lines_of(text)
    reader = ProgramReader()
    for at, line in enumerate(lines):
        if not reader.take(line):
            raise BadProgramText(at)
    if not reader.is_done():
        raise BadProgramText(len(lines))
    return reader.program

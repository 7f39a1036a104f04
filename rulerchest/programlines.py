"""Reading the text of a program, line by line.

Behind every line that is taken some text of a program goes on: a block can
always be ended by "give o", and one line more makes the block behind an else.
"""

from rulerchest.judging import are_different_names, is_name
from rulerchest.programs import (
    MOST_DEPTH, MOST_ROUNDS, and_set, are_fresh, are_set, behind_call, behind_draw, behind_is, is_question,
    names_of_sheet, question_names,
)
from rulerchest.textlines import deed_of_words


class OpenBlock:
    """A block that is being read: what it is, its statements, the names that are set in it.

    ahead is for the second block of an if: the names that are set behind the first one.
    second is for the first block of an if: the list that is the second one.
    """

    def __init__(self, kind, block, known):
        self.kind = kind
        self.block = block
        self.known = known
        self.ahead = {}
        self.second = []


class ProgramReader:
    """The routines that have been read, and the blocks within each other of the one that is being read."""

    def __init__(self):
        self.program = []
        self.routines = {}
        self.name = ""
        self.params = ()
        self.levels = []

    def is_done(self):
        """Whether the lines so far are a text of a program."""
        return len(self.program) > 0 and len(self.levels) == 0

    def take(self, line):
        """Read a line; whether a text can begin with it behind the lines ahead."""
        rest = line.lstrip(" ")
        blanks = len(line) - len(rest)
        words = rest.split(" ")
        if len(self.levels) == 0:
            return blanks == 0 and self.take_head(words)
        depth = blanks // 2
        if blanks & 1 == 1 or not 1 <= depth <= len(self.levels):
            return False
        last = self.levels[-1]
        if last.kind == "second" and len(last.block) == 0 and depth < len(self.levels):
            return False
        if words == ["else"]:
            return self.take_else(depth)
        self.end_blocks(depth)
        if depth == 1 and self.take_give(words):
            return True
        return self.take_statement(words)

    def take_head(self, words):
        """Read the words of the first line of a routine."""
        if len(words) < 2 or words[0] != "to" or not is_name(words[1]) or words[1] in self.routines:
            return False
        params = tuple(words[2:])
        if not are_different_names(params) or not are_fresh(params):
            return False
        self.name = words[1]
        self.params = params
        self.levels.append(OpenBlock("routine", [], and_set(names_of_sheet(), params)))
        return True

    def take_give(self, words):
        """Read the words of the last line of a routine."""
        routine = self.levels[0]
        results = tuple(words[1:])
        if words[0] != "give" or len(results) == 0 or not are_set(results, routine.known):
            return False
        self.program.append((self.name, self.params, routine.block, results))
        self.routines[self.name] = (len(self.params), len(results))
        self.levels.pop()
        return True

    def take_else(self, depth):
        """Go on with the second block of the if whose first block has been read."""
        if depth == len(self.levels) or self.levels[depth].kind != "first":
            return False
        self.end_blocks(depth + 1)
        first = self.levels.pop()
        second = OpenBlock("second", first.second, self.levels[-1].known)
        second.ahead = first.known
        self.levels.append(second)
        return True

    def end_blocks(self, depth):
        """End the blocks that are deeper; behind an if or a repeat more names may be set."""
        while len(self.levels) > depth:
            ended = self.levels.pop()
            outer = self.levels[-1]
            if ended.kind == "repeat":
                outer.known = ended.known
            elif ended.kind == "second":
                outer.known = {name: True for name in ended.ahead if name in ended.known}

    def take_statement(self, words):
        """Read the words of the line of a statement."""
        if words[1:2] == ["="]:
            return self.take_draw_or_is(words)
        if ":=" in words:
            return self.take_call(words)
        if len(self.levels) == MOST_DEPTH:
            return False
        if words[0] == "repeat":
            return self.take_repeat(words)
        return words[0] == "if" and self.take_if(words)

    def put(self, statement, known):
        """Put a simple statement into the block; known is None if it is none."""
        if known is None:
            return False
        level = self.levels[-1]
        level.block.append(statement)
        level.known = known
        return True

    def take_draw_or_is(self, words):
        """Read NAME = DEED or NAME = OTHER."""
        known = self.levels[-1].known
        if len(words) == 3:
            statement = ("is", words[0], words[2])
            return self.put(statement, behind_is(statement, known))
        statement = ("draw", words[0], deed_of_words(words[2:]))
        return self.put(statement, behind_draw(statement, known))

    def take_call(self, words):
        """Read NAMES := ROUTINE ARGS."""
        at = words.index(":=")
        if at + 1 == len(words):
            return False
        statement = ("call", tuple(words[:at]), words[at + 1], tuple(words[at + 2:]))
        return self.put(statement, behind_call(statement, self.levels[-1].known, self.routines))

    def take_repeat(self, words):
        """Read repeat COUNT and begin with its block."""
        counts = [str(count) for count in range(MOST_ROUNDS + 1)]
        if len(words) != 2 or words[1] not in counts:
            return False
        count = counts.index(words[1])
        level = self.levels[-1]
        block = []
        level.block.append(("repeat", count, block))
        self.levels.append(OpenBlock("never" if count == 0 else "repeat", block, level.known))
        return True

    def take_if(self, words):
        """Read if QUESTION and begin with its first block."""
        level = self.levels[-1]
        question = tuple(words[1:])
        if words[1:2] == ["can"]:
            question = ("can", deed_of_words(words[2:]))
        if not is_question(question) or not are_set(question_names(question), level.known):
            return False
        first = OpenBlock("first", [], level.known)
        level.block.append(("if", question, first.block, first.second))
        self.levels.append(first)
        return True

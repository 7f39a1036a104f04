"""A desk: a work that is spoken to in lines."""

from rulerchest.chests import WORDS, TOOLS
from rulerchest.errors import CannotCarry, CannotLay, Needed, NoName, NotInChest, NothingDone, Taken
from rulerchest.judging import is_name
from rulerchest.numbers import trimmed
from rulerchest.numbertexts import number_text
from rulerchest.plane import side
from rulerchest.rowtexts import whole_text
from rulerchest.sketchplaces import same_place
from rulerchest.textlines import deed_of_words
from rulerchest.verdicts import paper_of
from rulerchest.works import Work

WHAT = "what"
DONE = "ok"
NAME_WORDS = {"rub": 1, "rename": 2, "word": 1, "x": 1, "y": 1, "why": 1, "same": 2, "side": 3}
AXES = ("x", "y")
SIDES = {1: "left", -1: "right", 0: "line"}


class Desk:
    """A work that begins with the empty chest, and the answers to lines."""

    def __init__(self):
        self.work = Work(())

    def say(self, line):
        """The answer to any value as a line."""
        if not isinstance(line, str):
            return WHAT
        words = line.split(" ")
        try:
            return answer_to(self.work, words[0], words[1:])
        except CannotCarry:
            return "error cannotcarry"
        except CannotLay:
            return "error cannotlay"
        except Needed:
            return "error needed"
        except NoName:
            return "error noname"
        except NotInChest:
            return "error notinchest"
        except NothingDone:
            return "error nothingdone"
        except Taken:
            return "error taken"


def answer_to(work, word, rest):
    """The answer to a word and the words behind it."""
    if word in NAME_WORDS:
        if len(rest) != NAME_WORDS[word] or not all([is_name(name) for name in rest]):
            return WHAT
        return answer_on_names(work, word, rest)
    if word == "draw":
        return drawn_answer(work, rest)
    if word in ("outfit", "carry"):
        return chest_answer(work, word, rest)
    if len(rest) > 0:
        return WHAT
    if word == "undo":
        work.undo()
        return DONE
    if word == "names":
        return listed([name for name, _ in work.steps])
    return listed(work.chest) if word == "chest" else WHAT


def listed(words):
    """The words with blanks between, a dash for none."""
    return " ".join(words) if len(words) > 0 else "-"


def drawn_answer(work, rest):
    """The answer to draw and the words behind it."""
    deed = deed_of_words(rest[1:])
    if deed is None or not is_name(rest[0]):
        return WHAT
    work.draw(rest[0], deed)
    return DONE


def chest_answer(work, word, rest):
    """The answer to outfit or carry and the tools behind it."""
    if not all([tool in TOOLS for tool in rest]) or len(set(rest)) < len(rest):
        return WHAT
    chest = tuple(sorted(rest))
    if word == "outfit":
        work.outfit(chest)
    else:
        work.carry(chest)
    return DONE


def answer_on_names(work, word, names):
    """The answer to a word with as many names behind it as it should have."""
    match word:
        case "rub":
            work.rub(names[0])
            return DONE
        case "rename":
            work.rename(names[0], names[1])
            return DONE
        case "word":
            return work.word(names[0])
        case "x":
            return number_text(trimmed(work.point(names[0])[0]))
        case "y":
            return number_text(trimmed(work.point(names[0])[1]))
        case "why":
            return reason(work.point(names[0]))
    points = [work.point(name) for name in names]
    if word == "same":
        return "yes" if same_place(points[0], points[1]) else "no"
    return SIDES[side(points[0], points[1], points[2])]


def reason(point):
    """The axis, the path and the leaf below zero that show a point to be outside of "middle", a dash for none."""
    x, y = point
    paper = paper_of((trimmed(x), trimmed(y)))
    if paper[0] != WORDS[-1]:
        return "-"
    _, axis, path, (n, d) = paper
    return " ".join([AXES[axis], path, whole_text(n) + "/" + whole_text(d)])

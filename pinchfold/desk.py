"""The desk: a house that is asked by lines of text."""

from pinchfold.errors import (
    BadPlace, BadPlan, BadSlot, BadText, Folded, Full, NoBack, NoForth, NoPaper, NoPinch, OtherRow, Taken, Unfolded,
)
from pinchfold.house import House
from pinchfold.pages import deed_text, plan_text, read_deed, read_things
from pinchfold.roads import road
from pinchfold.strips import folds


def undo_line(house):
    """Take the last deed back and answer by its line."""
    return deed_text(house.back())


def redo_line(house):
    """Do again what was taken back last, and answer by its line."""
    return deed_text(house.again())


def names_line(house):
    """Answer by the names."""
    return " ".join(house.names())


def lie_line(house, name):
    """Answer by how the paper lies."""
    return " ".join([str(number) for number in house.lie(name)])


def row_line(house, name):
    """Answer by the row of the paper."""
    return house.row(name)


def plan_line(house, name):
    """Answer by the plan of the paper."""
    return plan_text(house.plan(name))


def seen_line(house, name):
    """Answer by what is seen of the paper on top."""
    return sight_text(house.seen(name))


def beneath_line(house, name):
    """Answer by what is seen of the paper beneath."""
    return sight_text(house.beneath(name))


def sight_text(sight):
    """Write what is seen, slot by slot."""
    pieces = []
    for copy, side, corner, colour, letters in sight:
        shade = colour or "plain"
        pieces.append(f"{copy} {side} {corner} {shade} {letters}")
    return ", ".join(pieces)


def road_line(house, name, top, under):
    """Answer by the road from where the paper stands to another place."""
    steps = road(house.plan(name), house.lie(name)[:2], (top, under))
    return ", ".join([" ".join(step) for step in steps])


def folds_line(house, name):
    """Answer by how many plans have the row of the paper."""
    return str(folds(house.row(name)))


ANSWERS = {
    "undo": undo_line,
    "redo": redo_line,
    "names": names_line,
    "lie": lie_line,
    "row": row_line,
    "plan": plan_line,
    "seen": seen_line,
    "beneath": beneath_line,
    "road": road_line,
    "folds": folds_line,
}

# What stands behind the first word of each line that is no deed's.
ASKED = {
    "undo": (),
    "redo": (),
    "names": (),
    "lie": ("name",),
    "row": ("name",),
    "plan": ("name",),
    "seen": ("name",),
    "beneath": ("name",),
    "road": ("name", "number", "number"),
    "folds": ("name",),
}


def answer_to(house, line):
    """Answer a line, or refuse with BadText where it is no line and else as the house does."""
    first, *words = line.split(" ")
    if first not in ANSWERS:
        house.do(read_deed(line))
        return "done"
    things = read_things(ASKED[first], words)
    answer = ANSWERS[first]
    return answer(house, *things) or "none"


def answer_or_refusal(house, line):
    """Answer a line, a refusal by its class's name in small letters.

    These are all refusals that can come about: the others are of words that are
    not read at all.
    """
    try:
        return answer_to(house, line)
    except BadText:
        return "no line"
    except NoPaper:
        return "refused nopaper"
    except Unfolded:
        return "refused unfolded"
    except Folded:
        return "refused folded"
    except NoPinch:
        return "refused nopinch"
    except BadSlot:
        return "refused badslot"
    except BadPlan:
        return "refused badplan"
    except BadPlace:
        return "refused badplace"
    except OtherRow:
        return "refused otherrow"
    except Taken:
        return "refused taken"
    except Full:
        return "refused full"
    except NoBack:
        return "refused noback"
    except NoForth:
        return "refused noforth"


class Desk:
    """A house of its own, and the answers to lines."""

    def __init__(self):
        self.kept = House()

    def say(self, line):
        """Answer a line."""
        return answer_or_refusal(self.kept, line)

    def house(self):
        """Tell a twin of the desk's house."""
        return self.kept.twin()

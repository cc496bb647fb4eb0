"""Deeds, plans and pages as texts."""

from pinchfold.errors import BadText, PinchError
from pinchfold.house import THINGS, House, is_name
from pinchfold.papers import COLOURS, is_letter
from pinchfold.places import WAYS

FIGURES = "0123456789"
MOST_FIGURES = 4


def plan_text(plan):
    """Write a plan by its form."""
    faces, cuts = plan
    pairs = ",".join([f"{low}-{high}" for low, high in cuts])
    return f"{faces}:{pairs}"


def deed_text(deed):
    """Write a deed."""
    return " ".join([thing_text(thing) for thing in deed])


def thing_text(thing):
    """Write one thing of a deed: only its plan is a tuple."""
    if isinstance(thing, tuple):
        return plan_text(thing)
    return str(thing)


def read_name(text):
    """Read a name."""
    if not is_name(text):
        raise BadText(0)
    return text


def read_way(text):
    """Read a way."""
    if text not in WAYS:
        raise BadText(0)
    return text


def read_colour(text):
    """Read a colour."""
    if text not in COLOURS:
        raise BadText(0)
    return text


def read_letter(text):
    """Read a letter."""
    if not is_letter(text):
        raise BadText(0)
    return text


def read_number(text):
    """Read a number of 1 to 4 figures."""
    if not is_number(text):
        raise BadText(0)
    return int(text)


def is_number(text):
    """Tell whether a text is a number of 1 to 4 figures without a needless nought."""
    if len(text) < 1 or len(text) > MOST_FIGURES:
        return False
    if not all([figure in FIGURES for figure in text]):
        return False
    return text == "0" or text[0] != "0"


def read_plan(text):
    """Read a tuple that has the form of a plan."""
    faces, colon, pairs = text.partition(":")
    if colon == "":
        raise BadText(0)
    cuts = [] if pairs == "" else [read_cut(pair) for pair in pairs.split(",")]
    return (read_number(faces), tuple(cuts))


def read_cut(text):
    """Read two numbers with a dash between."""
    low, dash, high = text.partition("-")
    # Without the dash high is the empty text, which is no number.
    return (read_number(low), read_number(high))


READERS = {
    "name": read_name,
    "plan": read_plan,
    "way": read_way,
    "slot": read_number,
    "colour": read_colour,
    "letter": read_letter,
    "number": read_number,
}


def read_things(kinds, words):
    """Read words, one of each of these kinds."""
    if len(words) != len(kinds):
        raise BadText(0)
    return [read_thing(kind, word) for kind, word in zip(kinds, words)]


def read_thing(kind, word):
    """Read a word of this kind."""
    reader = READERS[kind]
    return reader(word)


def read_deed(text):
    """Read a deed."""
    first, *words = text.split(" ")
    if first not in THINGS:
        raise BadText(0)
    things = read_things(THINGS[first], words)
    return (first, *things)


def page_text(house, skip=0):
    """Write the deeds that stand, a line each, from the line of the number skip on."""
    return "".join([deed_text(deed) + "\n" for deed in house.deeds()[skip:]])


def read_page(text):
    """Read a page to a house in which its deeds are done."""
    *written, rest = text.split("\n")
    house = House()
    for at, line in enumerate(written):
        try:
            house.do(read_deed(line))
        except PinchError:
            raise BadText(at) from None
    if rest != "":
        raise BadText(len(written))
    return house

"""Places: where a paper stands, its two stacks, and what pinches lead to."""

from pinchfold.errors import BadPlace, BadWay, NoPinch
from pinchfold.plans import lines, low_first, thirds_of
from pinchfold.strips import hands_of

WAYS = ("even", "odd")


def places(plan):
    """Tell all places, rising."""
    joined = lines(plan)
    return sorted(joined + [turned_over(line) for line in joined])


def turned_over(place):
    """Tell the place of the paper turned over."""
    top, under = place
    return (under, top)


def check_place(plan, place):
    """Refuse what is no plan, then what is no place of it."""
    joined = lines(plan)
    top, under = place
    if low_first(top, under) not in joined:
        raise BadPlace("no place of this plan")


def check_way(plan, place, way):
    """Refuse what is no plan, then what is no place of it, then what is no way."""
    check_place(plan, place)
    check_word_of_way(way)


def check_word_of_way(way):
    """Refuse what is no way."""
    if way not in WAYS:
        raise BadWay("a way is even or odd")


def third(plan, place, way):
    """Tell the third corner of the part at the stack of this way, or None where it is one leaf."""
    check_way(plan, place, way)
    return corner_at(thirds_of(plan), place, way)


def corner_at(thirds, place, way):
    """Tell the third corner at the stack of this way, or None where it is one leaf."""
    top, under = place
    if way == "even":
        return thirds.get((top, under))
    return thirds.get((under, top))


def pinch(plan, place, way):
    """Tell the place behind a pinch."""
    check_way(plan, place, way)
    return place_behind(thirds_of(plan), place, "pinch", way)


def unpinch(plan, place, way):
    """Tell the place behind an unpinch."""
    check_way(plan, place, way)
    return place_behind(thirds_of(plan), place, "unpinch", way)


def place_behind(thirds, place, word, way):
    """Tell the place behind a pinch or an unpinch of a way."""
    corner = corner_at(thirds, place, way)
    if corner is None:
        raise NoPinch("a stack of one leaf cannot be opened")
    top, under = place
    if word == "pinch":
        return (corner, top)
    return (under, corner)


def over(plan, place):
    """Tell the place of the paper turned over."""
    check_place(plan, place)
    return turned_over(place)


def stacks(plan, place):
    """Tell the leaves of the even and of the odd stack, each from its top to its bottom."""
    check_place(plan, place)
    top, under = place
    faces = plan[0]
    even = [(top + step) % faces for step in range((under - top) % faces)]
    odd = [(top - 1 - step) % faces for step in range((top - under) % faces)]
    return (even, odd)


def upright(plan, place):
    """Tell whether the strip goes round to the right, seen from above."""
    check_place(plan, place)
    top, under = place
    hands = hands_of(thirds_of(plan))
    if (under, top) in hands:
        return hands[(under, top)] == "r"
    return hands[(top, under)] == "l"

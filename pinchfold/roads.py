"""Roads from place to place, and round tours."""

from pinchfold.errors import BadStep
from pinchfold.places import check_place, corner_at, place_behind, turned_over
from pinchfold.plans import thirds_of

OVER = ("over",)
PINCHES = (("pinch", "even"), ("pinch", "odd"), ("unpinch", "even"), ("unpinch", "odd"))
OTHER_WAY = {"even": "odd", "odd": "even"}


def road(plan, place, other):
    """Tell the road of the fewest steps to the other place, over at its very end at most."""
    check_place(plan, place)
    check_place(plan, other)
    came = ways_out(thirds_of(plan), place)
    # Of the two places of each line, pinches and unpinches lead to just one.
    if other in came:
        return steps_to(came, other)
    return steps_to(came, turned_over(other)) + [OVER]


def ways_out(thirds, begin):
    """Tell, by each place that pinches and unpinches lead to, the place ahead of it and the step from there."""
    came = {begin: None}
    reached = [begin]
    while reached:
        further = []
        for place in reached:
            for word, way in PINCHES:
                if corner_at(thirds, place, way) is None:
                    continue
                behind = place_behind(thirds, place, word, way)
                if behind not in came:
                    came[behind] = (place, (word, way))
                    further.append(behind)
        reached = further
    return came


def steps_to(came, place):
    """Tell the steps by which the place was reached, the first one first."""
    steps = []
    while came[place] is not None:
        place, step = came[place]
        steps.append(step)
    return steps[::-1]


def walked(plan, place, steps):
    """Tell the place behind the steps."""
    check_place(plan, place)
    thirds = thirds_of(plan)
    for step in steps:
        place = behind_step(thirds, place, step)
    return place


def behind_step(thirds, place, step):
    """Tell the place behind one step."""
    if step == OVER:
        return turned_over(place)
    if step not in PINCHES:
        raise BadStep("no step of a road")
    word, way = step
    return place_behind(thirds, place, word, way)


def tour(plan, place):
    """Tell a round tour: pinches that meet each line and come back."""
    check_place(plan, place)
    thirds = thirds_of(plan)
    return round_part(thirds, place, "even") + round_part(thirds, place, "odd")


def round_part(thirds, place, way):
    """Tell the pinches once round the part at the stack of this way, and round all parts beyond it."""
    if corner_at(thirds, place, way) is None:
        return []
    steps = [("pinch", way)]
    # At each of its lines the part is at the stack of the same way: so the other way leads beyond it.
    for line in range(2):
        place = place_behind(thirds, place, "pinch", way)
        steps.extend(round_part(thirds, place, OTHER_WAY[way]))
        steps.append(("pinch", way))
    return steps

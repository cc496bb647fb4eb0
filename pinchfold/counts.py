"""The order and the numbers of plans, and how many there are.

A plan is a way to cut the arc of the corners 1, 2 .. n - 1, 0. Turned back by
one it is a way to cut the arc 0, 1 .. n - 1: so the work is done there, where
the corners between two ends are the numbers between them.
"""

from pinchfold.errors import BadFaces, BadNumber
from pinchfold.plans import LEAST_FACES, MOST_FACES, thirds_of, turned


def how_many(faces):
    """Tell how many plans have so many faces."""
    check_faces(faces)
    return ways_to_cut(faces)[faces]


def check_faces(faces):
    """Refuse a number of faces that no plan has."""
    if faces < LEAST_FACES or faces > MOST_FACES:
        raise BadFaces("faces are from 3 to 40")


def ways_to_cut(most):
    """Tell, by the number of its corners up to most, how many ways there are to cut an arc."""
    ways = [0, 0, 1]
    for corners in range(3, most + 1):
        ways.append(sum([ways_beside(ways, 0, chosen, corners - 1) for chosen in range(1, corners - 1)]))
    return ways


def ways_beside(ways, first, chosen, last):
    """Tell how many ways there are to cut the two arcs beside the chosen corner."""
    return ways[chosen - first + 1] * ways[last - chosen + 1]


def plan_numbered(faces, number):
    """Tell the plan of so many faces that has this number."""
    check_faces(faces)
    ways = ways_to_cut(faces)
    if number < 0 or number >= ways[faces]:
        raise BadNumber("no plan has this number")
    cuts = sorted(cuts_inside(ways, 0, faces - 1, number))
    return turned((faces, tuple(cuts)), 1)


def cuts_inside(ways, first, last, number):
    """Tell the cuts of the arc from first to last, without its closing line, in the way of this number."""
    if last - first < 2:
        return []
    chosen = first + 1
    while number >= ways_beside(ways, first, chosen, last):
        number -= ways_beside(ways, first, chosen, last)
        chosen += 1
    of_first, of_second = divmod(number, ways[last - chosen + 1])
    cuts = [(start, end) for start, end in [(first, chosen), (chosen, last)] if end - start >= 2]
    cuts.extend(cuts_inside(ways, first, chosen, of_first))
    cuts.extend(cuts_inside(ways, chosen, last, of_second))
    return cuts


def number_of(plan):
    """Tell the number of a plan."""
    thirds = thirds_of(turned(plan, -1))
    faces = plan[0]
    return number_inside(ways_to_cut(faces), thirds, 0, faces - 1)


def number_inside(ways, thirds, first, last):
    """Tell the number of the way in which the arc from first to last is cut."""
    if last - first < 2:
        return 0
    chosen = thirds[(first, last)]
    earlier = sum([ways_beside(ways, first, corner, last) for corner in range(first + 1, chosen)])
    of_first = number_inside(ways, thirds, first, chosen)
    of_second = number_inside(ways, thirds, chosen, last)
    return earlier + of_first * ways[last - chosen + 1] + of_second


def unlike(faces):
    """Tell how many plans there are when alike ones count once.

    By turnings: the plans that a turning leaves as they are, added up over all
    turnings, are as many for each turning as there are unlike plans.
    """
    check_faces(faces)
    ways = ways_to_cut(faces)
    kept = ways[faces]
    # A plan that is turned into itself keeps the cut or the part in its
    # middle: a cut is kept by the half turn alone, a part by two thirds' turns.
    if faces % 2 == 0:
        kept += faces // 2 * ways[faces // 2 + 1]
    if faces % 3 == 0:
        kept += 2 * (faces // 3) * ways[faces // 3 + 1]
    return kept // faces

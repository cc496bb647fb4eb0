"""Plans: rings of faces that are cut into parts of three corners each."""

from pinchfold.errors import BadFace, BadPlan

LEAST_FACES = 3
MOST_FACES = 40


def is_plan(plan):
    """Tell whether a tuple of a number and a tuple of pairs of numbers is a plan."""
    faces, cuts = plan
    # The counts go first, so that a number far off costs no work.
    if faces < LEAST_FACES or faces > MOST_FACES or len(cuts) != faces - 3:
        return False
    if not all([is_cut(faces, low, high) for low, high in cuts]):
        return False
    return rising(cuts) and not crossing(cuts)


def is_cut(faces, low, high):
    """Tell whether low and high are corners of the ring, low less than high, and no side."""
    if low < 0 or high >= faces:
        return False
    return high - low >= 2 and (low, high) != (0, faces - 1)


def rising(cuts):
    """Tell whether each cut is more than the one ahead of it, so that none is there twice."""
    return all([one < following for one, following in zip(cuts, cuts[1:])])


def crossing(cuts):
    """Tell whether two of the cuts cross."""
    return any([low < start < high < end for low, high in cuts for start, end in cuts])


def check_plan(plan):
    """Refuse what is no plan."""
    if not is_plan(plan):
        raise BadPlan("no plan")


def lines(plan):
    """Tell the sides and the cuts as pairs (low, high), rising."""
    check_plan(plan)
    faces, cuts = plan
    sides = [low_first(corner, (corner + 1) % faces) for corner in range(faces)]
    return sorted(sides + list(cuts))


def low_first(one, other):
    """Put two corners into a pair (low, high)."""
    return (min(one, other), max(one, other))


def parts(plan):
    """Tell the parts as triples of rising corners, rising."""
    told = lines(plan)
    joined = set(told)
    found = []
    # No corner lies inside the ring and no cuts cross: so wherever three
    # corners are joined, nothing parts them further.
    for low, middle in told:
        for high in range(middle + 1, plan[0]):
            if (low, high) in joined and (middle, high) in joined:
                found.append((low, middle, high))
    return found


def thirds_of(plan):
    """Tell the third corners of the parts, each by the two ends of a line that it lies between.

    The pair (start, end) has the corner that is met as one goes round from
    start to end; a pair without corners between, a side, has none.
    """
    thirds = {}
    for low, middle, high in parts(plan):
        thirds[(low, high)] = middle
        thirds[(middle, low)] = high
        thirds[(high, middle)] = low
    return thirds


def fan(plan, face):
    """Tell the faces that have a line with this one, going round from the face that follows it."""
    joined = lines(plan)
    faces = plan[0]
    if face < 0 or face >= faces:
        raise BadFace("no face of this plan")
    around = [(face + step) % faces for step in range(1, faces)]
    return [corner for corner in around if low_first(face, corner) in joined]


def turned(plan, shift=1):
    """Tell the plan in which each corner has become the one that is shift further on."""
    check_plan(plan)
    faces = plan[0]
    return with_corners(plan, [(corner + shift) % faces for corner in range(faces)])


def mirrored(plan):
    """Tell the plan in which each corner above 0 has become faces less that corner."""
    check_plan(plan)
    faces = plan[0]
    return with_corners(plan, [(faces - corner) % faces for corner in range(faces)])


def with_corners(plan, becomes):
    """Tell the plan in which each corner has become the one that the list has in its place."""
    faces, cuts = plan
    moved = [low_first(becomes[low], becomes[high]) for low, high in cuts]
    return (faces, tuple(sorted(moved)))


def alike(one, other):
    """Tell whether one of two plans is the other one turned."""
    return first_form(one) == first_form(other)


def first_form(plan):
    """Tell, of all plans alike to this one, the one with the least tuple of cuts."""
    check_plan(plan)
    return min([turned(plan, shift) for shift in range(plan[0])])

"""The strip: the hands of its leaves, their order and row, and the plans that have a row.

The part at the side of 0 and 1 is of the right hand, and its stack is put down
straight; hands and manners both change from each part to the next. So stacks
with a part of the right hand are straight, and those with one of the left hand
crossed.
"""

from pinchfold.errors import BadRow, NoFold, TooLong
from pinchfold.plans import LEAST_FACES, MOST_FACES, low_first, thirds_of

MOST_LISTED = 10
OTHER_HAND = {"r": "l", "l": "r"}


def hands_of(thirds):
    """Tell the hands of the parts, each by the same pairs by which it has a third corner."""
    hands = {}
    waiting = [((1, 0), "r")]
    while waiting:
        (start, end), hand = waiting.pop()
        if (start, end) in thirds and (start, end) not in hands:
            hands[(start, end)] = hand
            # The same part at another of its lines, and the part on the other side of this line.
            waiting.append(((thirds[(start, end)], start), hand))
            waiting.append(((end, start), OTHER_HAND[hand]))
    return hands


def strip_order(plan):
    """Tell the leaves in the order in which they stand in the strip."""
    return [0] + order_of_stack(thirds_of(plan), 1, 0, True)


def order_of_stack(thirds, start, end, straight):
    """Tell the strip's order of the leaves from start round to end."""
    corner = thirds.get((start, end))
    if corner is None:
        return [start]
    first = order_of_stack(thirds, start, corner, not straight)
    second = order_of_stack(thirds, corner, end, not straight)
    if straight:
        return first + second
    return second + first


def row_of(plan):
    """Tell the hands of the leaves in the strip's order."""
    hands = hands_of(thirds_of(plan))
    faces = plan[0]
    return "".join([hands[((leaf + 1) % faces, leaf)] for leaf in strip_order(plan)])


def check_row(row):
    """Refuse a text that is no row."""
    if len(row) < LEAST_FACES or len(row) > MOST_FACES:
        raise BadRow("a row has 3 to 40 letters")
    if row[0] != "r" or row.count("r") + row.count("l") != len(row):
        raise BadRow("a row is of letters r and l and begins with r")


def what_bars(row):
    """Tell why no plan has the row, or None where some plan has it."""
    check_row(row)
    if (row.count("r") - row.count("l")) % 3 != 0:
        return "count"
    if not any([one == following for one, following in zip(row, row[1:] + row[0])]):
        return "turns"
    return None


def folds(row):
    """Tell how many plans have the row."""
    check_row(row)
    return whole_ways(row, ways_to_fold(row))


def whole_ways(row, ways):
    """Tell in how many ways all of the row behind its first letter can be a stack.

    Its part is the one at the side of 0 and 1, of the right hand: so it counts
    as one within a part of the left hand.
    """
    return ways[(1, len(row), "l")]


def ways_to_fold(row):
    """Tell in how many ways each stretch of the row behind its first letter can be a stack.

    Each is told by its start, its end, and the hand of the part that the stack
    lies within: a leaf has that hand, the part of a larger stack the other one.
    """
    ways = {}
    for start in range(1, len(row)):
        for hand in "rl":
            ways[(start, start + 1, hand)] = 1 if row[start] == hand else 0
    for length in range(2, len(row)):
        for start in range(1, len(row) - length + 1):
            for hand in "rl":
                ways[(start, start + length, hand)] = ways_to_part(ways, start, start + length, OTHER_HAND[hand])
    return ways


def ways_to_part(ways, start, end, hand):
    """Tell in how many ways a part of this hand can part the stretch into two stacks."""
    return sum([ways[(start, at, hand)] * ways[(at, end, hand)] for at in range(start + 1, end)])


def any_fold(row):
    """Tell one plan that has the row."""
    check_row(row)
    ways = ways_to_fold(row)
    if whole_ways(row, ways) == 0:
        raise NoFold("no plan has this row")
    return plans_of(row, ways, True)[0]


def all_folds(row):
    """Tell all plans that have the row, rising."""
    check_row(row)
    if len(row) > MOST_LISTED:
        raise TooLong("a row of more than ten letters")
    return sorted(plans_of(row, ways_to_fold(row), False))


def plans_of(row, ways, just_one):
    """Tell the plans that have the row, or just one of them."""
    faces = len(row)
    found = []
    for joined in lines_inside(ways, (1, faces), "l", 1, just_one):
        # The arc ends with the corner 0, which is counted on as faces there.
        cuts = [low_first(start, end % faces) for start, end in joined if end - start >= 2]
        found.append((faces, tuple(sorted(cuts))))
    return found


def lines_inside(ways, stretch, outer, first, just_one):
    """Tell the choices of lines inside the stack that is a stretch of the row, its leaves numbered from first on.

    It lies within a part of the hand outer; just one choice is told where no more are wanted.
    """
    start, end = stretch
    if end - start == 1:
        return [[]]
    hand = OTHER_HAND[outer]
    found = []
    for at in points_to_part(ways, stretch, hand, just_one):
        one, other = (start, at), (at, end)
        if hand == "l":
            one, other = other, one
        corner = first + one[1] - one[0]
        joined = [(first, corner), (corner, first + end - start)]
        for inside_one in lines_inside(ways, one, hand, first, just_one):
            for inside_other in lines_inside(ways, other, hand, corner, just_one):
                found.append(joined + inside_one + inside_other)
    return found


def points_to_part(ways, stretch, hand, just_one):
    """Tell where a part of this hand can part the stretch into two stacks, or the first such point alone."""
    start, end = stretch
    points = [at for at in range(start + 1, end) if ways[(start, at, hand)] > 0 and ways[(at, end, hand)] > 0]
    if just_one:
        return points[:1]
    return points

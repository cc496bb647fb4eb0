"""A model of papers, made without the program's help: the tests hold its answers against the program's."""

from functools import lru_cache
from itertools import combinations

from tests.samples import FAR, cuts_among, halved, ring_lines, star, zigzag

WAYS = ("even", "odd")
PINCHES = tuple((word, way) for word in ("pinch", "unpinch") for way in WAYS)
NO_WAYS = ("", "Even", "EVEN", "ODD", "even ", " odd", "evenodd", "e", "o", "over", "pinch", "left", "eve", "dd", "\n")
NO_THIRDS = (-1, 3, 4, -2, -3, FAR, -FAR)


def scattered(faces, seed):
    """A plan without a pattern: each arc is parted at a corner that only the seed tells."""
    arcs, joined = [list(range(faces))], []
    while arcs:
        arc = arcs.pop()
        if len(arc) > 2:
            seed = (seed * 1103515245 + 12345) % 2 ** 31
            at = 1 + (seed >> 8) % (len(arc) - 2)
            arcs += [arc[:at + 1], arc[at:]]
            joined += [(arc[0], arc[at]), (arc[at], arc[-1])]
    return (faces, cuts_among(faces, joined))


def forty_faced_plans():
    shaped = [star(40), star(40, 17), star(40, 39), zigzag(40), halved(40)]
    return shaped + [scattered(40, seed) for seed in (1, 2, 3)]


def going_round(faces, start, end):
    """The corners behind start and ahead of end, as one goes round."""
    corner, met = (start + 1) % faces, []
    while corner != end:
        met.append(corner)
        corner = (corner + 1) % faces
    return met


@lru_cache(maxsize=None)
def has_line(plan, one, other):
    return (min(one, other), max(one, other)) in ring_lines(plan)


def own_places(plan):
    pairs = [(top, under) for top in range(plan[0]) for under in range(plan[0])]
    return [(top, under) for top, under in pairs if top != under and has_line(plan, top, under)]


def no_places(plan):
    """Pairs that are no places: by faces that are not there, by one face twice, and by no line."""
    faces = plan[0]
    near = range(-2, faces + 2)
    pairs = {(top, under) for top in near for under in near} - set(own_places(plan))
    far = [(FAR, 0), (0, FAR), (-FAR, 1), (1, -FAR), (FAR, FAR), (-FAR, FAR), (-faces, 1), (faces, 2 * faces)]
    return sorted(pairs) + far


def some_no_places(plan):
    """A few of each kind."""
    faces = plan[0]
    told = [(0, 0), (faces - 1, faces - 1), (-1, 0), (0, -1), (0, faces), (faces, 0), (faces, faces + 1),
            (FAR, 0), (0, -FAR), (-1, -2)]
    apart = [pair for pair in no_places(plan) if 0 <= pair[0] < faces and 0 <= pair[1] < faces and pair[0] != pair[1]]
    return told + apart[:3] + apart[-3:]


@lru_cache(maxsize=None)
def own_third(plan, place, way):
    top, under = place
    start, end = (top, under) if way == "even" else (under, top)
    for corner in going_round(plan[0], start, end):
        if has_line(plan, start, corner) and has_line(plan, corner, end):
            return corner
    return None


def own_step(plan, place, step):
    """The place behind a step, or None where it cannot be done."""
    top, under = place
    if step == ("over",):
        return (under, top)
    corner = own_third(plan, place, step[1])
    if corner is None:
        return None
    return (corner, top) if step[0] == "pinch" else (under, corner)


def own_stacks(plan, place):
    top, under = place
    even = [top] + going_round(plan[0], top, under)
    odd = [under] + going_round(plan[0], under, top)
    return (even, odd[::-1])


@lru_cache(maxsize=None)
def own_hands(plan):
    """The hands of the parts, spread from the part at the side of 0 and 1."""
    joined = ring_lines(plan)
    triples = combinations(range(plan[0]), 3)
    parts = [part for part in triples if all(pair in joined for pair in combinations(part, 2))]
    hands = {part: "r" for part in parts if part[:2] == (0, 1)}
    waiting = list(hands)
    while waiting:
        part = waiting.pop()
        for other in parts:
            if other not in hands and len(set(part) & set(other)) == 2:
                hands[other] = "l" if hands[part] == "r" else "r"
                waiting.append(other)
    return hands


def own_upright(plan, place):
    """By a part of the line, whichever is found first."""
    top, under = place
    corner = own_third(plan, place, "odd")
    if corner is not None:
        return own_hands(plan)[tuple(sorted((top, under, corner)))] == "r"
    corner = own_third(plan, place, "even")
    return own_hands(plan)[tuple(sorted((top, under, corner)))] == "l"


@lru_cache(maxsize=None)
def own_order(plan):
    """The strip's order, put down stack by stack: what is waiting last is put down next."""
    put_down = [0]
    waiting = [(list(range(1, plan[0])), "straight")]
    while waiting:
        stack, manner = waiting.pop()
        if len(stack) == 1:
            put_down += stack
            continue
        start, end = stack[0], (stack[-1] + 1) % plan[0]
        corners = [leaf for leaf in stack[1:] if has_line(plan, start, leaf) and has_line(plan, leaf, end)]
        assert len(corners) == 1
        at = stack.index(corners[0])
        if manner == "straight":
            waiting += [(stack[at:], "crossed"), (stack[:at], "crossed")]
        else:
            waiting += [(stack[:at], "straight"), (stack[at:], "straight")]
    return tuple(put_down)


def own_row(plan):
    faces, hands = plan[0], own_hands(plan)
    letters = {}
    for part, hand in hands.items():
        for one, other in combinations(part, 2):
            if other - one == 1:
                letters[one] = hand
            elif (one, other) == (0, faces - 1):
                letters[other] = hand
    return "".join(letters[leaf] for leaf in own_order(plan))


def own_middles(plan, place):
    """By counting the parts at the corner top, and those of them that lie ahead of the line."""
    top, under = place
    faces, joined = plan[0], ring_lines(plan)
    others = going_round(faces, top, top)
    at_top = [pair for pair in combinations(others, 2) if all(
        tuple(sorted(line)) in joined for line in ((top, pair[0]), (top, pair[1]), pair)
    )]
    ahead = going_round(faces, top, under) + [under]
    between = [pair for pair in at_top if pair[0] in ahead and pair[1] in ahead]
    return (len(between) % 3, (len(between) - len(at_top)) % 3)


def own_heaps(plan, lie):
    """By cutting the ring of all copies into stretches, wherever even leaves and odd ones meet."""
    top, under, front = lie
    order, copies = own_order(plan), 3 * plan[0]
    even, odd = own_stacks(plan, (top, under))
    is_even = [order[copy % plan[0]] in even for copy in range(copies)]
    begins = [copy for copy in range(copies) if is_even[copy] != is_even[copy - 1]]
    stretches = []
    for at, begin in enumerate(begins):
        end = begins[(at + 1) % len(begins)]
        stretches.append([begin] + going_round(copies, begin, end))
    in_front = front * plan[0] + order.index(top)
    first = [at for at, stretch in enumerate(stretches) if in_front in stretch][0]
    turn = 1 if own_upright(plan, (top, under)) else -1
    slots = [stretches[(first + turn * slot) % len(stretches)] for slot in range(len(stretches))]
    downwards = even + odd
    return [sorted(stretch, key=lambda copy: downwards.index(order[copy % plan[0]])) for stretch in slots]


def wandering(plan, place, count, seed=7):
    """Steps that can be done one behind the other from a place, pinches, unpinches and turnings over."""
    steps = []
    while len(steps) < count:
        seed = (seed * 1103515245 + 12345) % 2 ** 31
        step = (PINCHES + (("over",),))[(seed >> 8) % 5]
        behind = own_step(plan, place, step)
        if behind is not None:
            steps.append(step)
            place = behind
    return steps

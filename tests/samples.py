"""Plans and tuples that are no plans, made without the program's help."""

FAR = 10 ** 39


def ring_lines(plan):
    faces, cuts = plan
    sides = [(corner, corner + 1) for corner in range(faces - 1)]
    return set(sides) | {(0, faces - 1)} | set(cuts)


def ways_of_arc(corners):
    """All ways to cut an arc, in the order of [4], each as a list of lines without the closing one."""
    if len(corners) < 3:
        return [[]]
    found = []
    for at in range(1, len(corners) - 1):
        chosen = [(corners[0], corners[at]), (corners[at], corners[-1])]
        for first in ways_of_arc(corners[:at + 1]):
            for second in ways_of_arc(corners[at:]):
                found.append(chosen + first + second)
    return found


def plans_in_order(faces):
    """All plans of so many faces, in the order of [4]."""
    arc = list(range(1, faces)) + [0]
    return [(faces, cuts_among(faces, way)) for way in ways_of_arc(arc)]


def cuts_among(faces, pairs):
    rising = [(min(pair), max(pair)) for pair in pairs]
    return tuple(sorted(pair for pair in rising if pair[1] - pair[0] not in (1, faces - 1)))


def star(faces, middle=0):
    """The plan whose cuts all meet in one corner."""
    ends = [(middle + step) % faces for step in range(2, faces - 1)]
    return (faces, tuple(sorted((min(middle, end), max(middle, end)) for end in ends)))


def zigzag(faces):
    """The plan whose cuts go to and fro between the two halves of the ring."""
    low, high, cuts = 0, faces - 1, []
    while high - low > 2:
        low += 1
        cuts.append((low, high))
        if high - low > 2:
            high -= 1
            cuts.append((low, high))
    return (faces, tuple(sorted(cuts)))


def halved(faces):
    """The plan that takes each second corner off, again and again."""
    ring, cuts = list(range(faces)), []
    while len(ring) > 3:
        taken = ring[1::2]
        if len(ring) - len(taken) < 3:
            taken = taken[:len(ring) - 3]
        for corner in taken:
            at = ring.index(corner)
            cuts.append((ring[at - 1], ring[(at + 1) % len(ring)]))
        ring = [corner for corner in ring if corner not in taken]
    return (faces, cuts_among(faces, cuts))


def large_plans():
    """Plans of many shapes, of 9 faces up to 40."""
    found = []
    for faces in (9, 10, 12, 17, 24, 39, 40):
        found += [star(faces), star(faces, faces - 1), star(faces, faces // 2), zigzag(faces), halved(faces)]
    return found


def few_faced_plans():
    return [plan for faces in range(3, 8) for plan in plans_in_order(faces)]


def own_turned(plan, shift):
    faces, cuts = plan
    return (faces, cuts_among(faces, [((a + shift) % faces, (b + shift) % faces) for a, b in cuts]))


def own_mirrored(plan):
    faces, cuts = plan
    return (faces, cuts_among(faces, [((faces - a) % faces, (faces - b) % faces) for a, b in cuts]))


def with_cut(plan, at, cut):
    cuts = list(plan[1])
    cuts[at] = cut
    return (plan[0], tuple(cuts))


# Each is wrong by one thing alone, as far as that can be.
NO_PLANS = {
    "no faces": (0, ()),
    "one face": (1, ()),
    "two faces": (2, ()),
    "two faces and a cut": (2, ((0, 1),)),
    "41 faces": star(41),
    "41 faces, zigzag": zigzag(41),
    "faces far off": (FAR, ()),
    "faces far off, some cuts": (FAR, ((0, 2), (0, 3))),
    "faces below nought": (-1, ()),
    "faces far below nought": (-FAR, ((0, 2),)),
    "a cut too many at 3": (3, ((0, 2),)),
    "no cuts at 4": (4, ()),
    "the two crossing cuts of 4": (4, ((0, 2), (1, 3))),
    "a cut left out": (6, ((0, 2), (0, 3))),
    "the first cut left out at 40": (40, star(40)[1][1:]),
    "the last cut left out at 40": (40, star(40)[1][:-1]),
    "a cut doubled": (6, ((0, 2), (0, 2), (0, 4))),
    "a cut doubled beyond the count": (5, ((0, 2), (0, 2), (0, 3))),
    "the last cut doubled": (6, ((0, 2), (0, 3), (0, 3))),
    "out of order": (5, ((0, 3), (0, 2))),
    "out of order by low": (6, ((2, 4), (0, 2), (0, 4))),
    "out of order at the end of 40": (40, star(40)[1][:-2] + ((0, 38), (0, 37))),
    "turned about": (5, ((0, 2), (3, 0))),
    "the only cut turned about": (4, ((2, 0),)),
    "low as much as high": (4, ((2, 2),)),
    "a corner and itself ahead": (5, ((0, 0), (0, 2))),
    "a side as a cut": (4, ((0, 1),)),
    "the last side but one as a cut": (4, ((2, 3),)),
    "the side of 0 and n - 1": (4, ((0, 3),)),
    "the side of 0 and n - 1 among cuts": (6, ((0, 2), (0, 3), (0, 5))),
    "the side of 0 and 39": with_cut(star(40), 36, (0, 39)),
    "an inner side among cuts": (6, ((0, 2), (0, 4), (3, 4))),
    "low below 0": (5, ((-1, 2), (0, 2))),
    "low below 0 for n - 1": (5, ((-1, 1), (1, 3))),
    "both below 0": (4, ((-3, -1),)),
    "high of n": (5, ((0, 2), (2, 5))),
    "high of n alone": (4, ((1, 4),)),
    "high beyond n": (5, ((0, 2), (3, 7))),
    "both beyond n": (4, ((4, 6),)),
    "corners far off": (4, ((0, FAR),)),
    "corners far below": (4, ((-FAR, 2),)),
    "crossing": (5, ((0, 2), (1, 3))),
    "crossing round 0": (5, ((0, 3), (1, 4))),
    "crossing, far apart": (6, ((0, 2), (2, 4), (3, 5))),
    "crossing of the first and the last": (7, ((0, 3), (0, 4), (1, 3), (2, 6))),
    "crossing at 40": with_cut(star(40), 36, (1, 39)),
}

"""The watcher of a shut paper: what plans it can have, by the pinches that were seen.

A chance is a tuple (plan, thirds, place, corners): a plan that the paper can
have, the third corners of its parts, the place at which it stands now, and the
corners that have the numbers 0, 1 .. by now. No chance is ever changed.
"""

from pinchfold.counts import how_many, plan_numbered
from pinchfold.errors import BadFaces, BadNumber, NoBack
from pinchfold.places import check_word_of_way, corner_at, place_behind
from pinchfold.plans import LEAST_FACES, fan, thirds_of

MOST_WATCHED = 8


def first_chances(bound):
    """Tell all chances of up to so many faces ahead of all that is seen."""
    found = []
    for faces in range(LEAST_FACES, bound + 1):
        for number in range(how_many(faces)):
            plan = plan_numbered(faces, number)
            thirds = thirds_of(plan)
            found.extend([(plan, thirds, (0, under), (0,)) for under in fan(plan, 0)])
    return found


def chances_pinched(chances, way):
    """Tell the chances that can be pinched so, at their places behind the pinch."""
    found = []
    for plan, thirds, place, corners in chances:
        if corner_at(thirds, place, way) is not None:
            found.append((plan, thirds, place_behind(thirds, place, "pinch", way), corners))
    return found


def chances_stuck(chances, way):
    """Tell the chances that cannot be pinched so."""
    found = []
    for plan, thirds, place, corners in chances:
        if corner_at(thirds, place, way) is None:
            found.append((plan, thirds, place, corners))
    return found


def chances_turned_over(chances):
    """Tell the chances at their places turned over."""
    return [(plan, thirds, (under, top), corners) for plan, thirds, (top, under), corners in chances]


def chances_with_top(chances, face):
    """Tell the chances that can have this number on top: the corner that has it, or for a new one a new corner."""
    found = []
    for plan, thirds, place, corners in chances:
        top = place[0]
        if face < len(corners):
            if corners[face] == top:
                found.append((plan, thirds, place, corners))
        elif top not in corners:
            found.append((plan, thirds, place, corners + (top,)))
    return found


class Watch:
    """What was seen of a shut paper, as a list of stages.

    A stage is a pair of the chances and of how many faces have numbers; the
    first one is ahead of all that was seen.
    """

    def __init__(self, bound=MOST_WATCHED):
        if bound < LEAST_FACES or bound > MOST_WATCHED:
            raise BadFaces("a shut paper has at most 3 to 8 faces")
        self.stages = [(first_chances(bound), 1)]

    def went(self, way, face):
        """See a pinch that went, and the number of the face on top then."""
        check_word_of_way(way)
        self.check_number(face)
        self.see_top(chances_pinched(self.chances(), way), face)

    def stuck(self, way):
        """See a pinch that could not be done."""
        check_word_of_way(way)
        self.stages.append((chances_stuck(self.chances(), way), self.met()))

    def turned_over(self, face):
        """See a turning over, and the number of the face on top then."""
        self.check_number(face)
        self.see_top(chances_turned_over(self.chances()), face)

    def check_number(self, face):
        """Refuse a number that neither a face has nor the next new one gets."""
        if face < 0 or face > self.met():
            raise BadNumber("no face has this number, and the next new one does not get it")

    def see_top(self, chances, face):
        """Add the stage of these chances with the face of this number on top."""
        self.stages.append((chances_with_top(chances, face), max(self.met(), face + 1)))

    def chances(self):
        """Tell the chances by now."""
        return self.stages[-1][0]

    def left(self):
        """Tell the pairs of a plan and a place that are left, by faces, then rising.

        Unlike first places lead to unlike ones, so no pair is there twice.
        """
        return sorted([(plan, place) for plan, thirds, place, corners in self.chances()])

    def met(self):
        """Tell how many faces have numbers."""
        return self.stages[-1][1]

    def back(self):
        """Take back what was seen last."""
        if len(self.stages) == 1:
            raise NoBack("nothing was seen")
        self.stages.pop()

    def twin(self):
        """Tell a watch that has seen the same."""
        # Its own first stage is replaced at once: so the least one is made.
        other = Watch(LEAST_FACES)
        other.stages = list(self.stages)
        return other

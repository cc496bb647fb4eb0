"""What is promised over the whole program, [1], and the interface."""

import inspect
import unittest

from pinchfold import counts, desk, house, pages, places, plans, roads, sights, strips, watch
from tests.model import forty_faced_plans, own_places
from tests.samples import few_faced_plans, zigzag

PLAN = (6, ((0, 2), (2, 4), (2, 5)))
SAMPLES = few_faced_plans()[::9] + [PLAN, zigzag(9), forty_faced_plans()[5]]

FUNCTIONS = {
    plans: ["is_plan(plan)", "lines(plan)", "parts(plan)", "fan(plan, face)", "turned(plan, shift=1)", "mirrored(plan)",
            "alike(one, other)", "first_form(plan)"],
    counts: ["how_many(faces)", "plan_numbered(faces, number)", "number_of(plan)", "unlike(faces)"],
    places: ["places(plan)", "third(plan, place, way)", "pinch(plan, place, way)", "unpinch(plan, place, way)",
             "over(plan, place)", "stacks(plan, place)", "upright(plan, place)"],
    strips: ["strip_order(plan)", "row_of(plan)", "what_bars(row)", "folds(row)", "any_fold(row)", "all_folds(row)"],
    roads: ["road(plan, place, other)", "walked(plan, place, steps)", "tour(plan, place)"],
    sights: ["middles(plan, place)", "ring(plan, lie)", "beneath(plan, lie)", "heaps(plan, lie)"],
    pages: ["plan_text(plan)", "deed_text(deed)", "read_deed(text)", "page_text(house, skip=0)", "read_page(text)"],
}
METHODS = {
    house.House: ["__init__(self)", "__len__(self)", "do(self, deed)", "back(self)", "again(self)", "deeds(self)",
                  "twin(self)", "names(self)", "folded(self, name)", "row(self, name)", "plan(self, name)",
                  "lie(self, name)", "seen(self, name)", "beneath(self, name)", "leaf(self, name, copy, side)"],
    watch.Watch: ["__init__(self, bound=8)", "went(self, way, face)", "stuck(self, way)", "turned_over(self, face)",
                  "left(self)", "met(self)", "back(self)", "twin(self)"],
    desk.Desk: ["__init__(self)", "say(self, line)", "house(self)"],
}


class Interface(unittest.TestCase):
    def check_signature(self, function, told):
        self.assertEqual(function.__name__ + str(inspect.signature(function)), told)

    def test_functions(self):
        for module, told in FUNCTIONS.items():
            for text in told:
                self.check_signature(getattr(module, text.split("(")[0]), text)

    def test_methods_stand_in_their_classes(self):
        for kind, told in METHODS.items():
            for text in told:
                self.check_signature(vars(kind)[text.split("(")[0]], text)


def asked(plan):
    """Questions that are answered by lists, or by tuples with lists in them."""
    place, lie = own_places(plan)[3], own_places(plan)[-2] + (1,)
    return [
        lambda: plans.lines(plan), lambda: plans.parts(plan), lambda: plans.fan(plan, 2), lambda: places.places(plan),
        lambda: places.stacks(plan, place), lambda: strips.strip_order(plan), lambda: roads.road(plan, place, (1, 0)),
        lambda: roads.road(plan, place, place), lambda: roads.road(plan, place, place[::-1]),
        lambda: roads.tour(plan, place), lambda: sights.ring(plan, lie), lambda: sights.beneath(plan, lie),
        lambda: sights.heaps(plan, lie), lambda: strips.all_folds("rrrrrr"), lambda: strips.all_folds("rlrl"),
    ]


def copied(told):
    """A copy of what is told, all the way in."""
    if isinstance(told, (list, tuple)):
        return type(told)(copied(inner) for inner in told)
    return told


def spoiled(told):
    """Change all lists of what is told, also the lists within, and tell how many there were."""
    if not isinstance(told, (list, tuple)):
        return 0
    count = sum(spoiled(inner) for inner in told)
    if isinstance(told, list):
        told.reverse()
        told.append("more")
        told[0] = None
        count += 1
    return count


class Told(unittest.TestCase):
    def test_lists_are_the_askers_own(self):
        for plan in SAMPLES:
            questions = asked(plan)
            kept = [copied(ask()) for ask in questions]
            for ask in questions:
                self.assertGreater(spoiled(ask()), 0)
            self.assertEqual([ask() for ask in questions], kept)

    def test_no_two_answers_are_one_list(self):
        for plan in SAMPLES:
            for ask in asked(plan):
                one, other = ask(), ask()
                kept = copied(other)
                spoiled(one)
                self.assertEqual(other, kept)

    def test_what_is_handed_in_stays(self):
        for plan in SAMPLES:
            steps = roads.tour(plan, (0, 1)) + [("over",)]
            kept = list(steps)
            self.assertEqual(roads.walked(plan, (0, 1), steps), (1, 0))
            self.assertEqual(steps, kept)

    def test_truths(self):
        for plan in SAMPLES:
            truths = [plans.is_plan(plan), plans.is_plan((plan[0] + 1, plan[1])), plans.alike(plan, plans.turned(plan)),
                      plans.alike(plan, (3, ()))]
            truths += [places.upright(plan, place) for place in own_places(plan)]
            held = house.House()
            held.do(("fold", "a", plan))
            truths.append(held.folded("a"))
            held.do(("unfold", "a"))
            truths.append(held.folded("a"))
            self.assertTrue(all(truth is True or truth is False for truth in truths))


if __name__ == "__main__":
    unittest.main()

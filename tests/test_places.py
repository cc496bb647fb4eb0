"""Places, stacks and pinches: [5], [6], [7], upright places: [8], [13], and their refusals."""

import unittest

from pinchfold.errors import BadPlace, BadPlan, BadWay, NoPinch
from pinchfold.places import over, pinch, places, stacks, third, unpinch, upright
from tests.model import (
    NO_WAYS, WAYS, forty_faced_plans, no_places, own_places, own_stacks, own_step, own_third, own_upright,
    some_no_places,
)
from tests.samples import NO_PLANS, few_faced_plans, ring_lines, star, zigzag

FEW = few_faced_plans()
FORTY = forty_faced_plans()
OTHER_WAY = {"even": "odd", "odd": "even"}


def places_and_ways(plans):
    return [(plan, place, way) for plan in plans for place in own_places(plan) for way in WAYS]


def openable(plans):
    return [told for told in places_and_ways(plans) if own_third(*told) is not None]


def asked_with_place(plan, place):
    """Each function that takes a place, but no way."""
    return {
        "over": lambda: over(plan, place),
        "stacks": lambda: stacks(plan, place),
        "upright": lambda: upright(plan, place),
    }


def asked_with_way(plan, place, way):
    return {
        "third": lambda: third(plan, place, way),
        "pinch": lambda: pinch(plan, place, way),
        "unpinch": lambda: unpinch(plan, place, way),
    }


class Places(unittest.TestCase):
    def test_by_hand(self):
        self.assertEqual(places((3, ())), [(0, 1), (0, 2), (1, 0), (1, 2), (2, 0), (2, 1)])
        self.assertEqual(places((4, ((1, 3),))), [
            (0, 1), (0, 3), (1, 0), (1, 2), (1, 3), (2, 1), (2, 3), (3, 0), (3, 1), (3, 2),
        ])

    def test_each_line_either_way_about_rising(self):
        for plan in FEW + FORTY:
            told = places(plan)
            self.assertIs(type(told), list)
            self.assertTrue(all(type(place) is tuple for place in told))
            self.assertEqual(len(told), 4 * plan[0] - 6)
            self.assertEqual(told, sorted(set(told)))
            self.assertEqual({(min(place), max(place)) for place in told}, ring_lines(plan))
            self.assertEqual(told, own_places(plan))

    def test_over(self):
        for plan in FEW + FORTY:
            for top, under in own_places(plan):
                self.assertEqual(over(plan, (top, under)), (under, top))

    def test_a_told_list_is_the_askers_own(self):
        for plan in ((3, ()), star(6), zigzag(40)):
            told = places(plan)
            told.reverse()
            told.append("more")
            self.assertEqual(places(plan), own_places(plan))


class Pinches(unittest.TestCase):
    def test_by_hand(self):
        plan = (5, ((0, 2), (2, 4)))
        self.assertEqual(third(plan, (0, 2), "even"), 1)
        self.assertEqual(third(plan, (0, 2), "odd"), 4)
        self.assertEqual(third(plan, (2, 0), "even"), 4)
        self.assertEqual(third(plan, (2, 4), "odd"), 0)
        self.assertIsNone(third(plan, (4, 0), "even"))
        self.assertEqual(pinch(plan, (0, 2), "even"), (1, 0))
        self.assertEqual(pinch(plan, (0, 2), "odd"), (4, 0))
        self.assertEqual(unpinch(plan, (0, 2), "even"), (2, 1))
        self.assertEqual(unpinch(plan, (0, 2), "odd"), (2, 4))
        self.assertEqual(pinch(plan, (2, 4), "odd"), (0, 2))

    def test_third_by_going_round(self):
        for plan, place, way in places_and_ways(FEW + FORTY):
            self.assertEqual(third(plan, place, way), own_third(plan, place, way), (plan, place, way))

    def test_pinch_and_unpinch_by_going_round(self):
        for plan, place, way in openable(FEW + FORTY):
            self.assertEqual(pinch(plan, place, way), own_step(plan, place, ("pinch", way)))
            self.assertEqual(unpinch(plan, place, way), own_step(plan, place, ("unpinch", way)))
            self.assertIs(type(pinch(plan, place, way)), tuple)
            self.assertIs(type(unpinch(plan, place, way)), tuple)

    def test_no_pinch_just_where_the_stack_is_one_leaf(self):
        for plan, place, way in places_and_ways(FEW + FORTY):
            stack = own_stacks(plan, place)[WAYS.index(way)]
            if len(stack) == 1:
                self.assertIsNone(third(plan, place, way))
                for ask in (pinch, unpinch):
                    with self.assertRaises(NoPinch):
                        ask(plan, place, way)
            else:
                self.assertIn(third(plan, place, way), range(plan[0]))

    def test_one_undoes_the_other(self):
        for plan, place, way in openable(FEW + FORTY):
            self.assertEqual(unpinch(plan, pinch(plan, place, way), way), place)
            self.assertEqual(pinch(plan, unpinch(plan, place, way), way), place)

    def test_three_of_one_way_lead_back(self):
        for plan, place, way in openable(FEW + FORTY):
            for ask in (pinch, unpinch):
                behind = ask(plan, ask(plan, ask(plan, place, way), way), way)
                self.assertEqual(behind, place)

    def test_pinched_and_turned_over(self):
        for plan, place, way in openable(FEW + FORTY):
            pinched = over(plan, pinch(plan, place, way))
            self.assertEqual(pinched, unpinch(plan, over(plan, place), OTHER_WAY[way]))


class Stacks(unittest.TestCase):
    def test_by_hand(self):
        plan = (5, ((0, 2), (2, 4)))
        self.assertEqual(stacks(plan, (0, 1)), ([0], [4, 3, 2, 1]))
        self.assertEqual(stacks(plan, (1, 0)), ([1, 2, 3, 4], [0]))
        self.assertEqual(stacks(plan, (2, 4)), ([2, 3], [1, 0, 4]))
        self.assertEqual(stacks(plan, (4, 2)), ([4, 0, 1], [3, 2]))

    def test_by_going_round(self):
        for plan in FEW + FORTY:
            for place in own_places(plan):
                told = stacks(plan, place)
                self.assertIs(type(told), tuple)
                self.assertEqual([type(stack) for stack in told], [list, list])
                self.assertEqual(told, own_stacks(plan, place))

    def test_all_leaves_and_the_faces_that_are_seen(self):
        for plan in FEW + FORTY:
            faces = plan[0]
            for top, under in own_places(plan):
                even, odd = stacks(plan, (top, under))
                self.assertEqual(sorted(even + odd), list(range(faces)))
                # Fore sides up in the even stack, backs up in the odd one.
                self.assertEqual((even[0], (odd[0] + 1) % faces), (top, top))
                self.assertEqual(((even[-1] + 1) % faces, odd[-1]), (under, under))

    def test_told_lists_are_the_askers_own(self):
        for plan in ((3, ()), star(6), zigzag(40)):
            for place in own_places(plan):
                even, odd = stacks(plan, place)
                even.append(-1)
                odd.clear()
                self.assertEqual(stacks(plan, place), own_stacks(plan, place))


class Upright(unittest.TestCase):
    def test_by_hand(self):
        self.assertIs(upright((3, ()), (0, 1)), True)
        self.assertIs(upright((3, ()), (1, 0)), False)
        plan = (5, ((0, 2), (2, 4)))
        found = [place for place in own_places(plan) if upright(plan, place)]
        self.assertEqual(found, [(0, 1), (0, 4), (1, 2), (2, 0), (2, 3), (3, 4), (4, 2)])

    def test_by_hands(self):
        for plan in FEW + FORTY:
            for place in own_places(plan):
                self.assertIs(upright(plan, place), own_upright(plan, place), (plan, place))

    def test_the_first_place(self):
        for plan in FEW + FORTY:
            self.assertIs(upright(plan, (0, 1)), True)

    def test_just_one_place_of_a_line(self):
        for plan in FEW + FORTY:
            for place in own_places(plan):
                self.assertIs(upright(plan, place), not upright(plan, over(plan, place)))

    def test_kept_by_a_pinch_and_an_unpinch(self):
        for plan, place, way in openable(FEW + FORTY[3:5]):
            kept = upright(plan, place)
            self.assertIs(upright(plan, pinch(plan, place, way)), kept)
            self.assertIs(upright(plan, unpinch(plan, place, way)), kept)


class Refusals(unittest.TestCase):
    def test_no_plan_ahead_of_all(self):
        for why, plan in NO_PLANS.items():
            with self.subTest(why), self.assertRaises(BadPlan):
                places(plan)
            for place in ((0, 1), (0, 0), (-1, 99)):
                calls = asked_with_place(plan, place)
                for way in ("even", "odd", "", "up"):
                    calls.update({(name, way): call for name, call in asked_with_way(plan, place, way).items()})
                for name, call in calls.items():
                    with self.subTest(why, name=name, place=place), self.assertRaises(BadPlan):
                        call()

    def test_no_place(self):
        for plan in FEW:
            for place in no_places(plan):
                for name, call in asked_with_place(plan, place).items():
                    with self.assertRaises(BadPlace, msg=(name, plan, place)):
                        call()

    def test_no_place_ahead_of_the_way(self):
        for plan in FEW[:22] + FORTY:
            for place in some_no_places(plan):
                for way in ("even", "odd", "", "up"):
                    for name, call in asked_with_way(plan, place, way).items():
                        with self.assertRaises(BadPlace, msg=(name, plan, place, way)):
                            call()

    def test_no_place_of_forty_faces(self):
        for plan in FORTY:
            for place in some_no_places(plan):
                for name, call in asked_with_place(plan, place).items():
                    with self.assertRaises(BadPlace, msg=(name, plan, place)):
                        call()

    def test_no_way_ahead_of_no_pinch(self):
        for plan in FEW[:22] + [FORTY[3]]:
            for place in own_places(plan):
                for way in NO_WAYS:
                    for name, call in asked_with_way(plan, place, way).items():
                        with self.assertRaises(BadWay, msg=(name, plan, place, way)):
                            call()


if __name__ == "__main__":
    unittest.main()

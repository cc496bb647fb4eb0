"""Roads and round tours: [17], and their refusals."""

import unittest
from time import process_time

from pinchfold.errors import BadPlace, BadPlan, BadStep, NoPinch
from pinchfold.roads import road, tour, walked
from tests.model import PINCHES, WAYS, forty_faced_plans, own_places, own_step, own_third, some_no_places, wandering
from tests.samples import NO_PLANS, few_faced_plans, ring_lines, star, zigzag

FEW = few_faced_plans()
FORTY = forty_faced_plans()
OVER = ("over",)
LITTLE_TIME = 20

NO_STEPS = (
    (), ("",), ("pinch",), ("unpinch",), ("even",), ("odd",), ("Over",), ("over ",), ("about",), ("turn",),
    ("over", ""), ("over", "even"), ("over", "over"), ("", "even"), ("", ""), ("pinch", ""), ("pinch", "Even"),
    ("pinch", "up"), ("pinch", "over"), ("pinch", "even "), ("unpinch", ""), ("unpinch", "ODD"), ("unpinch", "left"),
    ("Pinch", "even"), ("pinc", "odd"), ("fold", "odd"), ("even", "pinch"), ("pinch", "even", "odd"),
    ("pinch", "even", ""), ("unpinch", "odd", "odd"), ("over", "over", "over"), ("pinch even",), ("pinch", "evenodd"),
)


def own_walk(plan, place, steps):
    for step in steps:
        place = own_step(plan, place, step)
    return place


def rings_out(plan, place):
    """How many pinches and unpinches each place is away, and by how many roads of so few steps."""
    away, roads = {place: 0}, {place: 1}
    reached = [place]
    while reached:
        further = []
        for here in reached:
            for step in PINCHES:
                behind = own_step(plan, here, step)
                if behind is None:
                    continue
                if behind not in away:
                    away[behind], roads[behind] = away[here] + 1, 0
                    further.append(behind)
                if away[behind] == away[here] + 1:
                    roads[behind] += roads[here]
        reached = further
    return away, roads


def spread(things, count):
    return [things[at * len(things) // count] for at in range(count)]


class Roads(unittest.TestCase):
    def check_roads(self, plan, place, others):
        away, roads = rings_out(plan, place)
        self.assertEqual(set(roads.values()), {1})
        for other in others:
            told = road(plan, place, other)
            self.assertIs(type(told), list)
            self.assertTrue(all(step in PINCHES for step in told[:-1]), told)
            self.assertTrue(all(type(step) is tuple for step in told))
            self.assertEqual(own_walk(plan, place, told), other)
            if other in away:
                self.assertEqual(len(told), away[other])
                self.assertNotIn(OVER, told)
            else:
                self.assertEqual(len(told), away[other[::-1]] + 1)
                self.assertEqual(told[-1], OVER)

    def test_by_hand(self):
        plan = (5, ((0, 2), (2, 4)))
        self.assertEqual(road(plan, (0, 1), (0, 1)), [])
        self.assertEqual(road(plan, (0, 1), (1, 0)), [OVER])
        self.assertEqual(road(plan, (0, 1), (2, 0)), [("pinch", "odd")])
        self.assertEqual(road(plan, (0, 1), (1, 2)), [("unpinch", "odd")])
        self.assertEqual(road(plan, (0, 1), (0, 2)), [("pinch", "odd"), OVER])
        self.assertEqual(road(plan, (0, 1), (3, 4)), [("pinch", "odd"), ("pinch", "even"), ("pinch", "odd")])
        self.assertEqual(road(plan, (4, 3), (2, 1)), [("pinch", "even"), ("pinch", "odd"), ("unpinch", "even")])

    def test_from_each_place_to_each_other(self):
        for plan in FEW:
            for place in own_places(plan):
                self.check_roads(plan, place, own_places(plan))

    def test_forty_faces_in_little_time(self):
        begun = process_time()
        for plan in FORTY:
            spots = own_places(plan)
            for place in spread(spots, 12):
                self.check_roads(plan, place, spread(spots, 30) + [place, place[::-1]])
        self.assertLess(process_time() - begun, LITTLE_TIME)

    def test_no_step_from_a_place_to_itself(self):
        for plan in FEW + FORTY[:4]:
            for place in own_places(plan):
                self.assertEqual(road(plan, place, place), [])
                self.assertEqual(road(plan, place, place[::-1]), [OVER])

    def test_a_told_list_is_the_askers_own(self):
        for plan in ((3, ()), star(6), zigzag(40)):
            for other in ((0, 1), (1, 0), (2, 1), (plan[0] - 1, 0)):
                told = road(plan, (0, 1), other)
                kept = list(told)
                told.append(("pinch", "even"))
                told.reverse()
                self.assertEqual(road(plan, (0, 1), other), kept)


class Walks(unittest.TestCase):
    def test_by_hand(self):
        plan = (5, ((0, 2), (2, 4)))
        self.assertEqual(walked(plan, (0, 1), []), (0, 1))
        self.assertEqual(walked(plan, (0, 1), [OVER]), (1, 0))
        self.assertEqual(walked(plan, (0, 1), [("pinch", "odd"), ("unpinch", "even")]), (0, 4))
        self.assertEqual(walked(plan, (0, 1), [OVER, ("unpinch", "even"), OVER, OVER]), (0, 2))

    def test_behind_good_steps(self):
        for plan in FEW + FORTY:
            for place in spread(own_places(plan), 5):
                for count in (0, 1, 2, 50):
                    steps = wandering(plan, place, count)
                    kept = list(steps)
                    told = walked(plan, place, steps)
                    self.assertIs(type(told), tuple)
                    self.assertEqual(told, own_walk(plan, place, kept))
                    self.assertEqual(steps, kept)

    def test_each_single_step(self):
        for plan in FEW:
            for place in own_places(plan):
                for step in PINCHES + (OVER,):
                    behind = own_step(plan, place, step)
                    if behind is None:
                        self.assertRaises(NoPinch, walked, plan, place, [step])
                    else:
                        self.assertEqual(walked(plan, place, [step]), behind)

    def test_no_step(self):
        for plan in (FEW[0], FEW[5], FORTY[3]):
            for step in NO_STEPS:
                for place in spread(own_places(plan), 4):
                    for ahead in ([], [OVER], wandering(plan, place, 6)):
                        steps = ahead + [step, OVER]
                        kept = list(steps)
                        with self.assertRaises(BadStep, msg=step):
                            walked(plan, place, steps)
                        self.assertEqual(steps, kept)

    def test_no_step_also_where_the_stack_is_one_leaf(self):
        self.assertRaises(BadStep, walked, (3, ()), (0, 1), [("pinch", "up")])
        self.assertRaises(BadStep, walked, (3, ()), (0, 1), [("pinch", "even", "odd")])

    def test_the_first_bad_step_tells(self):
        for plan in FEW[:22] + FORTY[:4]:
            for place in spread(own_places(plan), 6):
                ahead = wandering(plan, place, 4)
                here = own_walk(plan, place, ahead)
                for way in WAYS:
                    if own_third(plan, here, way) is not None:
                        continue
                    for word in ("pinch", "unpinch"):
                        for step in ((), ("pinch", "up"), ("over", "even")):
                            barred = (word, way)
                            self.assertRaises(NoPinch, walked, plan, place, ahead + [barred])
                            self.assertRaises(NoPinch, walked, plan, place, ahead + [barred, step])
                            self.assertRaises(BadStep, walked, plan, place, ahead + [step, barred])
                            self.assertRaises(BadStep, walked, plan, place, [step] + ahead + [barred])


class Tours(unittest.TestCase):
    def check_tour(self, plan, place):
        told = tour(plan, place)
        self.assertIs(type(told), list)
        self.assertEqual(len(told), 3 * plan[0] - 6)
        self.assertTrue(all(step in (("pinch", "even"), ("pinch", "odd")) for step in told))
        met, here = {tuple(sorted(place))}, place
        for step in told:
            here = own_step(plan, here, step)
            met.add(tuple(sorted(here)))
        self.assertEqual(here, place)
        self.assertEqual(met, ring_lines(plan))
        self.assertEqual(walked(plan, place, told), place)

    def test_by_hand(self):
        self.assertEqual(tour((3, ()), (0, 1)), [("pinch", "odd")] * 3)
        self.assertEqual(tour((3, ()), (1, 0)), [("pinch", "even")] * 3)

    def test_from_each_place(self):
        for plan in FEW:
            for place in own_places(plan):
                self.check_tour(plan, place)

    def test_forty_faces_in_little_time(self):
        begun = process_time()
        for plan in FORTY:
            for place in spread(own_places(plan), 20):
                self.check_tour(plan, place)
        self.assertLess(process_time() - begun, LITTLE_TIME)

    def test_a_told_list_is_the_askers_own(self):
        for plan in ((3, ()), star(6), zigzag(40)):
            told = tour(plan, (1, 0))
            kept = list(told)
            told.clear()
            self.assertEqual(tour(plan, (1, 0)), kept)


class Refusals(unittest.TestCase):
    def test_no_plan_ahead_of_all(self):
        for why, plan in NO_PLANS.items():
            for place in ((0, 1), (0, 0), (-1, 99)):
                for call in (
                    lambda: road(plan, place, (1, 0)),
                    lambda: road(plan, (0, 1), place),
                    lambda: road(plan, place, place),
                    lambda: walked(plan, place, []),
                    lambda: walked(plan, place, [("up",)]),
                    lambda: walked(plan, place, [("pinch", "even")]),
                    lambda: tour(plan, place),
                ):
                    with self.subTest(why, place=place), self.assertRaises(BadPlan):
                        call()

    def test_no_place_ahead_of_the_steps(self):
        for plan in FEW[:22] + FORTY:
            for place in some_no_places(plan):
                for call in (
                    lambda: road(plan, place, (0, 1)),
                    lambda: road(plan, (0, 1), place),
                    lambda: road(plan, place, place),
                    lambda: walked(plan, place, []),
                    lambda: walked(plan, place, [OVER]),
                    lambda: walked(plan, place, [("up",)]),
                    lambda: walked(plan, place, [("pinch", "even")]),
                    lambda: tour(plan, place),
                ):
                    with self.assertRaises(BadPlace, msg=(plan, place)):
                        call()


if __name__ == "__main__":
    unittest.main()

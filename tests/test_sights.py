"""What is seen: copies, slots and corners, [12], [14], [15], [16], and beneath as [20] has it."""

import unittest

from pinchfold.errors import BadLie, BadPlace, BadPlan
from pinchfold.places import pinch, unpinch
from pinchfold.roads import tour
from pinchfold.sights import beneath, heaps, middles, ring
from tests.model import (
    NO_THIRDS, forty_faced_plans, own_heaps, own_middles, own_order, own_places, own_stacks, own_step, own_third,
    own_upright, some_no_places, wandering,
)
from tests.samples import NO_PLANS, few_faced_plans, star, zigzag

FEW = few_faced_plans()
FORTY = forty_faced_plans()
OVER = ("over",)


def all_lies(plans):
    return [(plan, place + (front,)) for plan in plans for place in own_places(plan) for front in range(3)]


def some_lies(plans):
    return [told for at, told in enumerate(all_lies(plans)) if at % 11 == 0]


class Middles(unittest.TestCase):
    def test_by_hand(self):
        self.assertEqual(middles((3, ()), (0, 1)), (0, 2))
        self.assertEqual(middles((3, ()), (0, 2)), (1, 0))
        plan = (5, ((0, 2), (2, 4)))
        self.assertEqual([middles(plan, (2, under)) for under in (3, 4, 0, 1)], [(0, 0), (1, 1), (2, 2), (0, 0)])
        self.assertEqual([middles(plan, (0, under)) for under in (1, 2, 4)], [(0, 1), (1, 2), (2, 0)])

    def test_by_counting_parts(self):
        for plan in FEW + FORTY:
            for place in own_places(plan):
                told = middles(plan, place)
                self.assertIs(type(told), tuple)
                self.assertEqual(told, own_middles(plan, place), (plan, place))

    def test_a_leaf_alone_has_its_corner_nought_in_the_middle(self):
        for plan in FEW + FORTY:
            for leaf in range(plan[0]):
                following = (leaf + 1) % plan[0]
                self.assertEqual(middles(plan, (leaf, following))[0], 0)
                self.assertEqual(middles(plan, (following, leaf))[1], 0)


class Heaps(unittest.TestCase):
    def test_by_hand(self):
        plan = (5, ((0, 2), (2, 4)))
        self.assertEqual(heaps((3, ()), (0, 1, 0)), [[0], [2, 1], [3], [5, 4], [6], [8, 7]])
        self.assertEqual(heaps((3, ()), (1, 0, 1)), [[4, 5], [3], [1, 2], [0], [7, 8], [6]])
        self.assertEqual(heaps(plan, (0, 2, 1)), [[5, 6], [2, 4, 3], [0, 1], [12, 14, 13], [10, 11], [7, 9, 8]])
        self.assertEqual(heaps(plan, (2, 0, 2)), [[13, 14, 12], [1, 0], [3, 4, 2], [6, 5], [8, 9, 7], [11, 10]])
        # A stack that goes over the end of the strip: two copies of the third 0, two of the third 2.
        self.assertEqual(heaps(plan, (0, 4, 0))[0], [0, 1, 13, 14])

    def test_by_stretches_of_the_strip(self):
        for plan, lie in all_lies(FEW) + some_lies(FORTY):
            self.assertEqual(heaps(plan, lie), own_heaps(plan, lie), (plan, lie))

    def test_six_lists_of_all_copies(self):
        for plan, lie in all_lies(FEW) + some_lies(FORTY):
            told = heaps(plan, lie)
            self.assertIs(type(told), list)
            self.assertEqual([type(heap) for heap in told], [list] * 6)
            self.assertEqual(sorted(copy for heap in told for copy in heap), list(range(3 * plan[0])))

    def test_leaves_from_top_to_bottom(self):
        for plan, lie in all_lies(FEW) + some_lies(FORTY):
            order = own_order(plan)
            even, odd = own_stacks(plan, lie[:2])
            leaves = [[order[copy % plan[0]] for copy in heap] for heap in heaps(plan, lie)]
            self.assertEqual(leaves, [even, odd] * 3)

    def test_copies_of_a_stack_follow_one_another(self):
        for plan, lie in all_lies(FEW) + some_lies(FORTY):
            copies = 3 * plan[0]
            for heap in heaps(plan, lie):
                begins = [copy for copy in heap if (copy - 1) % copies not in heap]
                self.assertEqual(len(begins), 1)

    def test_the_thirds_of_the_top_leaf(self):
        for plan, lie in all_lies(FEW) + some_lies(FORTY):
            turn = 1 if own_upright(plan, lie[:2]) else -1
            thirds = [heap[0] // plan[0] for heap in heaps(plan, lie)[::2]]
            self.assertEqual(thirds, [(lie[2] + turn * further) % 3 for further in range(3)])

    def test_told_lists_are_the_askers_own(self):
        for plan in ((3, ()), star(6), zigzag(40)):
            for lie in ((0, 1, 0), (2, 1, 2)):
                told = heaps(plan, lie)
                told[0].append(-1)
                told[3].clear()
                told.pop()
                self.assertEqual(heaps(plan, lie), own_heaps(plan, lie))


class Rings(unittest.TestCase):
    def test_by_hand(self):
        plan = (5, ((0, 2), (2, 4)))
        self.assertEqual(ring(plan, (0, 1, 0)), [
            (0, "fore", 0), (2, "back", 1), (5, "fore", 0), (7, "back", 1), (10, "fore", 0), (12, "back", 1),
        ])
        self.assertEqual(beneath(plan, (0, 1, 0)), [
            (1, "fore", 1), (0, "back", 0), (11, "fore", 1), (10, "back", 0), (6, "fore", 1), (5, "back", 0),
        ])

    def test_the_tops_of_the_heaps(self):
        for plan, lie in all_lies(FEW) + some_lies(FORTY):
            told = ring(plan, lie)
            self.assertIs(type(told), list)
            self.assertTrue(all(type(seen) is tuple for seen in told))
            even, odd = own_middles(plan, lie[:2])
            tops = [heap[0] for heap in own_heaps(plan, lie)]
            self.assertEqual(told, [
                (tops[0], "fore", even), (tops[1], "back", odd), (tops[2], "fore", even),
                (tops[3], "back", odd), (tops[4], "fore", even), (tops[5], "back", odd),
            ])

    def test_beneath_is_the_ring_of_the_paper_turned_over(self):
        for plan, lie in all_lies(FEW) + some_lies(FORTY):
            top, under, front = lie
            told = beneath(plan, lie)
            self.assertIs(type(told), list)
            self.assertEqual(told, ring(plan, (under, top, front)))
            even, odd = own_middles(plan, (under, top))
            tops = [heap[0] for heap in own_heaps(plan, (under, top, front))]
            self.assertEqual(told, [
                (copy, ("fore", "back")[slot % 2], (even, odd)[slot % 2]) for slot, copy in enumerate(tops)
            ])

    def test_a_leaf_alone_is_seen_from_both_sides_by_one_corner(self):
        for plan in FEW + FORTY[3:5]:
            for leaf in range(plan[0]):
                lie = (leaf, (leaf + 1) % plan[0], 0)
                above = {(copy, corner) for copy, side, corner in ring(plan, lie) if side == "fore"}
                below = {(copy, corner) for copy, side, corner in beneath(plan, lie) if side == "back"}
                self.assertEqual(above, below)

    def test_told_lists_are_the_askers_own(self):
        for plan in ((3, ()), star(6), zigzag(40)):
            for ask in (ring, beneath):
                told = ask(plan, (0, 1, 1))
                kept = list(told)
                told.reverse()
                told.pop()
                self.assertEqual(ask(plan, (0, 1, 1)), kept)


class Paper:
    """A paper of six heaps of leaves that is folded by hand.

    Each leaf is a tuple: its copy, its side that is up, and how far the corner
    in the middle has moved on since the beginning. Seen from above, the corners
    of a heap are the middle, the left and the right one as one goes round to
    the right; the right one is at the heap in the next slot.
    """

    def __init__(self, plan, place, heaps_at_first):
        self.plan = plan
        self.place = place
        self.heaps = [
            [(copy, ("fore", "back")[slot % 2], 0) for copy in heap] for slot, heap in enumerate(heaps_at_first)
        ]

    def do(self, step):
        if step == OVER:
            self.turn_over()
        elif step[0] == "pinch":
            self.pinch(step[1])
        else:
            self.turn_over()
            self.pinch("odd" if step[1] == "even" else "even")
            self.turn_over()

    def turn_over(self):
        self.heaps = [flipped(self.heaps[(1 - slot) % 6]) for slot in range(6)]
        self.place = self.place[::-1]

    def pinch(self, way):
        """Each heap of this way and the one on its left are folded together, what is beneath inwards.

        The common corner of theirs that is not at that fold becomes the middle.
        Then the upper leaves of the opened heap are turned off to the right.
        """
        top = self.place[0]
        corner = own_third(self.plan, self.place, way)
        upper = (corner - top if way == "even" else top - corner) % self.plan[0]
        behind = [None] * 6
        for slot in range(0 if way == "even" else 1, 6, 2):
            opened = moved_to(self.heaps[slot], "right")
            beside = moved_to(self.heaps[slot - 1], "left")
            behind[slot] = opened[upper:] + flipped(beside)
            behind[(slot + 1) % 6] = flipped(opened[:upper])
        self.heaps = behind
        self.place = (corner, top)


def flipped(heap):
    return [(copy, "back" if side == "fore" else "fore", moved) for copy, side, moved in heap[::-1]]


def moved_to(heap, which):
    """The corners 0, 1, 2 go round to the right on a fore side, and to the left on a back."""
    onward = 1 if which == "left" else 2
    return [(copy, side, (moved + (onward if side == "fore" else -onward)) % 3) for copy, side, moved in heap]


class Walks(unittest.TestCase):
    def turned_to(self, paper, lie):
        """The paper's heaps from slot 0 on: turned about by slots of one kind, they are those that are told."""
        told = heaps(paper.plan, lie)
        for turn in (0, 2, 4):
            turned = paper.heaps[turn:] + paper.heaps[:turn]
            if [[copy for copy, side, moved in heap] for heap in turned] == told:
                return turned
        self.fail((paper.plan, lie))

    def check_sight(self, paper, front, corners):
        """Hold what is told against the paper; corners keeps the corner that each copy had at the beginning."""
        lie = paper.place + (front,)
        turned = self.turned_to(paper, lie)
        for heap, (copy, side, corner) in zip(turned, ring(paper.plan, lie)):
            self.assertEqual(heap[0][:2], (copy, side))
            self.assertEqual(corners.setdefault(copy, (corner - heap[0][2]) % 3), (corner - heap[0][2]) % 3)
        in_front = ring(paper.plan, lie)[0][0]
        self.assertEqual(in_front // paper.plan[0], front)
        self.assertEqual(own_order(paper.plan)[in_front % paper.plan[0]], paper.place[0])

    def check_walk(self, plan, lie, steps):
        paper = Paper(plan, lie[:2], heaps(plan, lie))
        corners = {}
        self.check_sight(paper, lie[2], corners)
        for step in steps:
            wanted = own_step(plan, paper.place, step)
            paper.do(step)
            self.assertEqual(paper.place, wanted)
            self.check_sight(paper, lie[2], corners)
        return corners

    def check_corners(self, plan, corners):
        """All copies were seen, and the three of one leaf lay alike."""
        self.assertEqual(sorted(corners), list(range(3 * plan[0])))
        for copy in range(plan[0]):
            self.assertEqual(len({corners[copy], corners[copy + plan[0]], corners[copy + 2 * plan[0]]}), 1)

    def test_wanderings(self):
        for plan in FEW:
            for at, place in enumerate(own_places(plan)):
                self.check_walk(plan, place + (at % 3,), wandering(plan, place, 12, seed=at))

    def test_round_tours_from_both_sides(self):
        for plan in FEW:
            for at, place in enumerate(own_places(plan)[:6]):
                steps = tour(plan, place) + [OVER] + tour(plan, place[::-1])
                self.check_corners(plan, self.check_walk(plan, place + (at % 3,), steps))

    def test_forty_faces(self):
        for plan in FORTY:
            steps = tour(plan, (0, 1)) + [OVER] + tour(plan, (1, 0)) + wandering(plan, (1, 0), 30)
            self.check_corners(plan, self.check_walk(plan, (0, 1, 2), steps))

    def test_a_pinch_and_an_unpinch_lead_back_to_the_same_sight(self):
        for plan, lie in all_lies(FEW):
            for way in ("even", "odd"):
                if own_third(plan, lie[:2], way) is not None:
                    there = unpinch(plan, pinch(plan, lie[:2], way), way)
                    self.assertEqual(ring(plan, there + lie[2:]), ring(plan, lie))

    def test_turned_about_by_a_third(self):
        for plan, lie in all_lies(FEW) + some_lies(FORTY):
            turn = 2 if own_upright(plan, lie[:2]) else -2
            told = heaps(plan, lie)
            about = lie[:2] + ((lie[2] + 1) % 3,)
            self.assertEqual(heaps(plan, about), told[turn:] + told[:turn])


class Refusals(unittest.TestCase):
    def test_no_plan_ahead_of_all(self):
        for why, plan in NO_PLANS.items():
            for place in ((0, 1), (0, 0), (-1, 99)):
                with self.subTest(why, place=place), self.assertRaises(BadPlan):
                    middles(plan, place)
                for front in (0, 3, -1):
                    for ask in (ring, beneath, heaps):
                        with self.subTest(why, place=place, front=front), self.assertRaises(BadPlan):
                            ask(plan, place + (front,))

    def test_no_place_ahead_of_the_third(self):
        for plan in FEW[:22] + FORTY:
            for place in some_no_places(plan):
                self.assertRaises(BadPlace, middles, plan, place)
                for front in (0, 2, 3, -1):
                    for ask in (ring, beneath, heaps):
                        with self.assertRaises(BadPlace, msg=(plan, place, front)):
                            ask(plan, place + (front,))

    def test_no_third(self):
        for plan in FEW[:22] + FORTY[:2]:
            for place in own_places(plan):
                for front in NO_THIRDS:
                    for ask in (ring, beneath, heaps):
                        with self.assertRaises(BadLie, msg=(plan, place, front)):
                            ask(plan, place + (front,))


if __name__ == "__main__":
    unittest.main()

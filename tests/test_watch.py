"""The watcher of a shut paper: [21]."""

import unittest

from pinchfold.errors import BadFaces, BadNumber, BadWay, NoBack
from pinchfold.watch import Watch
from tests.houses import numbers_from
from tests.model import NO_WAYS, WAYS, own_places, own_step, own_third
from tests.samples import FAR, few_faced_plans, plans_in_order

ALL = {bound: [plan for faces in range(3, bound + 1) for plan in plans_in_order(faces)] for bound in range(3, 9)}
FEW = few_faced_plans()


def fits(plan, place, seen):
    """The place behind all that was seen, or None where it does not fit; corners by their numbers."""
    corners = {0: place[0]}
    for what, way, face in seen:
        if what == "stuck":
            if own_third(plan, place, way) is not None:
                return None
            continue
        place = own_step(plan, place, ("pinch", way) if what == "went" else ("over",))
        if place is None:
            return None
        if face in corners:
            if corners[face] != place[0]:
                return None
        elif place[0] in corners.values():
            return None
        else:
            corners[face] = place[0]
    return place


def own_left(bound, seen):
    """By going through all plans and first places."""
    found = []
    for plan in ALL[bound]:
        for place in own_places(plan):
            if place[0] == 0:
                now = fits(plan, place, seen)
                if now is not None:
                    found.append((plan, now))
    return sorted(found)


def tell(watch, event):
    what, way, face = event
    if what == "went":
        return watch.went(way, face)
    if what == "stuck":
        return watch.stuck(way)
    return watch.turned_over(face)


def own_met(seen):
    return 1 + max([face for what, way, face in seen if what != "stuck"], default=0)


def shown_by(plan, place, count, seed):
    """What a watcher sees of a paper of this plan: pinches tried and turnings over without a pattern."""
    numbers, names, seen = numbers_from(seed), {place[0]: 0}, []
    while len(seen) < count:
        chance = next(numbers) % 7
        if chance == 0:
            what, way, behind = "over", "", own_step(plan, place, ("over",))
        else:
            what, way = "went", WAYS[chance % 2]
            behind = own_step(plan, place, ("pinch", way))
        if behind is None:
            seen.append(("stuck", way, None))
        else:
            place = behind
            seen.append((what, way, names.setdefault(place[0], len(names))))
    return seen, place


def seen_at_will(count, seed):
    """What can be told to a watch, whether it fits to some paper or not."""
    numbers, met, seen = numbers_from(seed), 1, []
    while len(seen) < count:
        chance = next(numbers) % 8
        face = next(numbers) % (met + 1)
        if chance == 0:
            seen.append(("stuck", WAYS[next(numbers) % 2], None))
            continue
        seen.append(("over", "", face) if chance == 1 else ("went", WAYS[chance % 2], face))
        met = max(met, face + 1)
    return seen


class Bounds(unittest.TestCase):
    def test_all_is_left_at_first(self):
        for bound in range(3, 9):
            watch = Watch(bound)
            told = watch.left()
            self.assertIs(type(told), list)
            self.assertEqual(told, own_left(bound, []))
            self.assertEqual(watch.met(), 1)
            self.assertEqual({plan[0] for plan, place in told}, set(range(3, bound + 1)))

    def test_by_hand(self):
        self.assertEqual(Watch(3).left(), [((3, ()), (0, 1)), ((3, ()), (0, 2))])
        self.assertEqual(Watch(4).left(), [
            ((3, ()), (0, 1)), ((3, ()), (0, 2)),
            ((4, ((0, 2),)), (0, 1)), ((4, ((0, 2),)), (0, 2)), ((4, ((0, 2),)), (0, 3)),
            ((4, ((1, 3),)), (0, 1)), ((4, ((1, 3),)), (0, 3)),
        ])

    def test_the_bound_that_is_not_told(self):
        self.assertEqual(Watch().left(), own_left(8, []))
        self.assertEqual(Watch().left(), Watch(8).left())

    def test_by_its_name(self):
        self.assertEqual(Watch(bound=4).left(), Watch(4).left())

    def test_beyond(self):
        for bound in (2, 9, 1, 0, -1, -3, 10, 40, 41, FAR, -FAR):
            self.assertRaises(BadFaces, Watch, bound)


class Left(unittest.TestCase):
    def test_by_hand(self):
        watch = Watch(4)
        self.assertIsNone(watch.went("even", 1))
        self.assertEqual(watch.left(), [
            ((3, ()), (1, 0)), ((4, ((0, 2),)), (1, 0)), ((4, ((0, 2),)), (2, 0)), ((4, ((1, 3),)), (1, 0)),
        ])
        self.assertIsNone(watch.stuck("odd"))
        self.assertEqual(watch.left(), [((3, ()), (1, 0)), ((4, ((0, 2),)), (1, 0)), ((4, ((1, 3),)), (1, 0))])
        self.assertIsNone(watch.turned_over(0))
        self.assertEqual(watch.left(), [((3, ()), (0, 1)), ((4, ((0, 2),)), (0, 1)), ((4, ((1, 3),)), (0, 1))])
        self.assertEqual(watch.met(), 2)

    def test_what_a_paper_shows(self):
        for seed, plan in enumerate(FEW[:22]):
            for at, place in enumerate([place for place in own_places(plan) if place[0] == 0]):
                bound = max(plan[0], 5 + at % 2)
                seen, now = shown_by(plan, place, 14, seed * 7 + at)
                watch = Watch(bound)
                for count, event in enumerate(seen):
                    self.assertIsNone(tell(watch, event))
                    self.assertEqual(watch.left(), own_left(bound, seen[:count + 1]), (plan, place, seen[:count + 1]))
                    self.assertEqual(watch.met(), own_met(seen[:count + 1]))
                self.assertIn((plan, now), watch.left())

    def test_eight_faces(self):
        for seed, plan in enumerate(ALL[8][64::40]):
            seen, now = shown_by(plan, (0, 1), 30, seed)
            watch = Watch()
            for count, event in enumerate(seen):
                tell(watch, event)
                if count % 6 == 5:
                    self.assertEqual(watch.left(), own_left(8, seen[:count + 1]))
            self.assertIn((plan, now), watch.left())

    def test_what_no_paper_need_show(self):
        emptied = 0
        for seed in range(60):
            bound = 3 + seed % 4
            seen = seen_at_will(10, seed)
            watch = Watch(bound)
            for count, event in enumerate(seen):
                tell(watch, event)
                left = own_left(bound, seen[:count + 1])
                self.assertEqual(watch.left(), left, seen[:count + 1])
                self.assertEqual(watch.met(), own_met(seen[:count + 1]))
                emptied += not left
        self.assertGreater(emptied, 20)

    def test_by_faces_then_rising(self):
        watch = Watch(7)
        watch.went("odd", 1)
        watch.turned_over(0)
        told = watch.left()
        self.assertEqual(told, sorted(told, key=lambda pair: (pair[0][0], pair[0][1], pair[1])))
        self.assertEqual(len(told), len(set(told)))
        for pair in told:
            self.assertEqual((type(pair), type(pair[0]), type(pair[0][1]), type(pair[1])), (tuple,) * 4)

    def test_a_whole_tour_leaves_one_plan_of_so_many_faces(self):
        watch, plan = Watch(6), (6, ((0, 2), (0, 4), (2, 4)))
        seen, now = shown_by(plan, (0, 1), 60, 3)
        for event in seen:
            tell(watch, event)
        self.assertEqual(watch.met(), 6)
        self.assertEqual(watch.left(), [(plan, now)])


class Numbers(unittest.TestCase):
    def test_met_counts_new_numbers(self):
        watch = Watch()
        for face, met in (
            (1, 2), (0, 2), (2, 3), (1, 3), (2, 3), (3, 4), (4, 5), (0, 5), (5, 6), (6, 7), (7, 8), (8, 9),
        ):
            watch.went("even", face)
            self.assertEqual(watch.met(), met)
        watch.stuck("odd")
        self.assertEqual(watch.met(), 9)
        watch.turned_over(9)
        self.assertEqual(watch.met(), 10)
        self.assertEqual(watch.left(), [])

    def test_a_face_that_comes_up_anew_is_no_face_that_was_on_top(self):
        for bound in (3, 5, 8):
            watch = Watch(bound)
            for face in (1, 2):
                watch.went("even", face)
            self.assertTrue(watch.left())
            again = watch.twin()
            again.went("even", 0)
            self.assertTrue(again.left())
            # Three pinches of one way lead back: so the face is 0 and no new one.
            watch.went("even", 3)
            self.assertEqual(watch.left(), [])

    def test_one_number_is_one_corner(self):
        watch = Watch(8)
        watch.went("odd", 1)
        watch.went("odd", 1)
        self.assertEqual(watch.left(), [])

    def test_turned_over_twice(self):
        watch = Watch(6)
        watch.turned_over(1)
        first = watch.left()
        self.assertTrue(all(place[1] == 0 for plan, place in first))
        other = watch.twin()
        watch.turned_over(0)
        self.assertEqual(watch.left(), Watch(6).left())
        other.turned_over(2)
        self.assertEqual(other.left(), [])

    def test_turned_over_it_is_not_the_face_it_was(self):
        watch = Watch(6)
        watch.turned_over(0)
        self.assertEqual((watch.left(), watch.met()), ([], 1))

    def test_nothing_left_stays_so(self):
        watch = Watch(5)
        watch.turned_over(0)
        for event in (("went", "even", 1), ("stuck", "odd", None), ("over", "", 0), ("went", "odd", 2)):
            self.assertIsNone(tell(watch, event))
            self.assertEqual(watch.left(), [])
        self.assertEqual(watch.met(), 3)

    def test_both_ways_stuck(self):
        watch = Watch(8)
        watch.stuck("even")
        self.assertEqual(watch.left(), own_left(8, [("stuck", "even", None)]))
        self.assertTrue(watch.left())
        watch.stuck("odd")
        self.assertEqual(watch.left(), [])


class Refusals(unittest.TestCase):
    def check_nothing_changed(self, watch, refusal, ask, *things):
        ahead = (watch.left(), watch.met())
        self.assertRaises(refusal, ask, *things)
        self.assertEqual((watch.left(), watch.met()), ahead)

    def test_way_then_number(self):
        watch = Watch(5)
        for event in (None, ("went", "odd", 1), ("went", "even", 2), ("over", "", 1)):
            if event is not None:
                tell(watch, event)
            for way in NO_WAYS:
                self.check_nothing_changed(watch, BadWay, watch.stuck, way)
                for face in (0, 1, -1, 99, FAR):
                    self.check_nothing_changed(watch, BadWay, watch.went, way, face)
            for face in (-1, -2, watch.met() + 1, watch.met() + 2, 99, FAR, -FAR):
                for way in WAYS:
                    self.check_nothing_changed(watch, BadNumber, watch.went, way, face)
                self.check_nothing_changed(watch, BadNumber, watch.turned_over, face)

    def test_the_next_new_number_is_none_too_many(self):
        for face in (0, 1):
            Watch(3).went("odd", face)
            Watch(3).turned_over(face)
        self.assertRaises(BadNumber, Watch(3).went, "odd", 2)
        self.assertRaises(BadNumber, Watch(3).turned_over, 2)

    def test_refusals_are_not_taken_back(self):
        watch = Watch(4)
        watch.went("even", 1)
        for refusal, ask, things in (
            (BadWay, watch.stuck, ("",)), (BadWay, watch.went, ("Odd", 0)), (BadNumber, watch.went, ("odd", 3)),
            (BadNumber, watch.turned_over, (-1,)),
        ):
            self.assertRaises(refusal, ask, *things)
        self.assertIsNone(watch.back())
        self.assertEqual((watch.left(), watch.met()), (own_left(4, []), 1))
        self.assertRaises(NoBack, watch.back)


class Back(unittest.TestCase):
    def test_one_by_one_to_the_beginning(self):
        for seed in range(12):
            bound = 3 + seed % 6
            seen = seen_at_will(12, seed) if seed % 2 else shown_by(ALL[bound][-1], (0, 1), 25, seed)[0]
            watch, states = Watch(bound), []
            for event in seen:
                states.append((watch.left(), watch.met()))
                tell(watch, event)
            while states:
                self.assertIsNone(watch.back())
                self.assertEqual((watch.left(), watch.met()), states.pop())
            self.assertRaises(NoBack, watch.back)
            self.assertEqual((watch.left(), watch.met()), (own_left(bound, []), 1))

    def test_nothing_seen(self):
        watch = Watch(4)
        for times in range(2):
            self.assertRaises(NoBack, watch.back)
            self.assertEqual((watch.left(), watch.met()), (own_left(4, []), 1))

    def test_seen_otherwise_behind_it(self):
        watch = Watch(5)
        watch.went("odd", 1)
        watch.went("odd", 2)
        watch.back()
        self.assertEqual(watch.met(), 2)
        self.assertRaises(BadNumber, watch.went, "odd", 3)
        watch.turned_over(0)
        self.assertEqual(watch.left(), own_left(5, [("went", "odd", 1), ("over", "", 0)]))


class Twins(unittest.TestCase):
    def test_on_its_own(self):
        for bound in (3, 5, 8):
            watch = Watch(bound)
            watch.went("odd", 1)
            watch.turned_over(0)
            twin = watch.twin()
            self.assertIs(type(twin), Watch)
            ahead = (watch.left(), watch.met())
            self.assertEqual((twin.left(), twin.met()), ahead)
            grandtwin = twin.twin()
            twin.stuck("even")
            twin.went("odd", 2)
            self.assertEqual((watch.left(), watch.met()), ahead)
            self.assertEqual(twin.left(), own_left(bound, [
                ("went", "odd", 1), ("over", "", 0), ("stuck", "even", None), ("went", "odd", 2),
            ]))
            grandtwin.back()
            grandtwin.back()
            self.assertRaises(NoBack, grandtwin.back)
            self.assertEqual(grandtwin.left(), own_left(bound, []))
            self.assertEqual((watch.left(), watch.met()), ahead)
            watch.back()
            self.assertEqual(twin.met(), 3)
            for times in range(4):
                twin.back()
            self.assertRaises(NoBack, twin.back)
            self.assertEqual(watch.left(), own_left(bound, [("went", "odd", 1)]))

    def test_two_watches(self):
        one, other = Watch(4), Watch(4)
        one.turned_over(1)
        self.assertEqual((other.left(), other.met()), (own_left(4, []), 1))
        self.assertRaises(NoBack, other.back)


class Told(unittest.TestCase):
    def test_lists_are_the_askers_own(self):
        watch = Watch(5)
        for event in (None, ("went", "odd", 1), ("over", "", 0)):
            if event is not None:
                tell(watch, event)
            twin, told = watch.twin(), watch.left()
            kept = list(told)
            told.reverse()
            told[0] = None
            told.pop()
            told.clear()
            self.assertEqual((watch.left(), twin.left()), (kept, kept))

    def test_told_ahead_they_stay(self):
        watch = Watch(5)
        told = watch.left()
        kept = list(told)
        watch.went("even", 1)
        watch.stuck("odd")
        self.assertEqual(told, kept)
        watch.back()
        watch.back()
        self.assertEqual(told, kept)
        self.assertEqual(watch.left(), kept)

    def test_questions_are_not_taken_back(self):
        watch = Watch(5)
        watch.went("even", 1)
        watch.left()
        watch.met()
        watch.twin()
        watch.back()
        self.assertRaises(NoBack, watch.back)


if __name__ == "__main__":
    unittest.main()

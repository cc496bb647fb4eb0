"""Plans: [2], [3] and what [1] says of them."""

import unittest
from itertools import combinations

from pinchfold.errors import BadFace, BadPlan
from pinchfold.plans import alike, fan, first_form, is_plan, lines, mirrored, parts, turned
from tests.samples import (
    FAR, NO_PLANS, few_faced_plans, large_plans, own_mirrored, own_turned, plans_in_order, ring_lines, star, zigzag,
)

ALL_PLANS = few_faced_plans() + large_plans()
SHIFTS = (1, 2, 5, -1, -2, 39, 40, 41, -40, 1000003, FAR, -FAR)


def any_two_cross(cuts):
    for (a, b), (c, d) in combinations(cuts, 2):
        if len({a, b, c, d}) == 4 and (a < c < b) != (a < d < b):
            return True
    return False


def refused_calls(plan):
    """Each function of plans but is_plan, asked about what is no plan."""
    return {
        "lines": lambda: lines(plan),
        "parts": lambda: parts(plan),
        "fan": lambda: fan(plan, 0),
        "fan of no face": lambda: fan(plan, -1),
        "fan of a face far off": lambda: fan(plan, FAR),
        "turned": lambda: turned(plan),
        "turned by a number": lambda: turned(plan, -3),
        "mirrored": lambda: mirrored(plan),
        "alike, as the one": lambda: alike(plan, (3, ())),
        "alike, as the other": lambda: alike((3, ()), plan),
        "alike, as both": lambda: alike(plan, plan),
        "first_form": lambda: first_form(plan),
    }


class WhatAPlanIs(unittest.TestCase):
    def test_plans(self):
        for plan in ALL_PLANS:
            self.assertIs(is_plan(plan), True, plan)

    def test_all_sizes(self):
        for faces in range(3, 41):
            for plan in (star(faces), star(faces, faces - 1), zigzag(faces)):
                self.assertIs(is_plan(plan), True, plan)

    def test_no_plans(self):
        for why, plan in NO_PLANS.items():
            self.assertIs(is_plan(plan), False, why)

    def test_every_rising_choice_of_pairs(self):
        for faces in range(3, 7):
            pairs = list(combinations(range(-1, faces + 1), 2))
            good = {pair for pair in pairs if 0 <= pair[0] and pair[1] < faces} - ring_lines((faces, ()))
            for cuts in combinations(pairs, faces - 3):
                fits = all(cut in good for cut in cuts) and not any_two_cross(cuts)
                self.assertIs(is_plan((faces, cuts)), fits, (faces, cuts))

    def test_every_choice_of_cuts_of_seven_and_eight_faces(self):
        for faces in (7, 8):
            cuts = sorted(set(combinations(range(faces), 2)) - ring_lines((faces, ())))
            found = [(faces, some) for some in combinations(cuts, faces - 3) if is_plan((faces, some))]
            self.assertEqual(found, sorted(plans_in_order(faces)))

    def test_other_functions_refuse_what_is_no_plan(self):
        for why, plan in NO_PLANS.items():
            for name, call in refused_calls(plan).items():
                with self.subTest(name, why=why), self.assertRaises(BadPlan):
                    call()


class LinesAndParts(unittest.TestCase):
    def test_of_few_faces(self):
        self.assertEqual(lines((3, ())), [(0, 1), (0, 2), (1, 2)])
        self.assertEqual(parts((3, ())), [(0, 1, 2)])
        plan = (5, ((0, 2), (2, 4)))
        self.assertEqual(lines(plan), [(0, 1), (0, 2), (0, 4), (1, 2), (2, 3), (2, 4), (3, 4)])
        self.assertEqual(parts(plan), [(0, 1, 2), (0, 2, 4), (2, 3, 4)])
        self.assertEqual(parts((6, ((0, 2), (0, 4), (2, 4)))), [(0, 1, 2), (0, 2, 4), (0, 4, 5), (2, 3, 4)])

    def test_lines(self):
        for plan in ALL_PLANS:
            told = lines(plan)
            self.assertIs(type(told), list)
            self.assertEqual(told, sorted(ring_lines(plan)))
            self.assertEqual(len(told), 2 * plan[0] - 3)
            self.assertTrue(all(type(line) is tuple for line in told))

    def test_parts(self):
        for plan in ALL_PLANS:
            told = parts(plan)
            self.assertIs(type(told), list)
            self.assertEqual(told, sorted(set(told)))
            self.assertEqual(len(told), plan[0] - 2)
            for part in told:
                self.assertIs(type(part), tuple)
                self.assertTrue(0 <= part[0] < part[1] < part[2] < plan[0])

    def test_each_cut_is_in_two_parts_and_each_side_in_one(self):
        for plan in ALL_PLANS:
            met = [pair for part in parts(plan) for pair in combinations(part, 2)]
            wanted = {line: 2 if line in plan[1] else 1 for line in ring_lines(plan)}
            self.assertEqual({pair: met.count(pair) for pair in met}, wanted, plan)

    def test_a_told_list_is_the_askers_own(self):
        for plan in ((3, ()), star(6), zigzag(40)):
            for ask in (lines, parts, lambda plan: fan(plan, 0)):
                told = ask(plan)
                kept = list(told)
                told.reverse()
                told.append("more")
                self.assertEqual(ask(plan), kept)
                self.assertTrue(is_plan(plan))


class Fans(unittest.TestCase):
    def test_of_few_faces(self):
        self.assertEqual([fan((3, ()), face) for face in range(3)], [[1, 2], [2, 0], [0, 1]])
        plan = (5, ((0, 2), (2, 4)))
        self.assertEqual([fan(plan, face) for face in range(5)], [[1, 2, 4], [2, 0], [3, 4, 0, 1], [4, 2], [0, 2, 3]])

    def test_every_face(self):
        for plan in ALL_PLANS:
            faces = plan[0]
            joined = ring_lines(plan)
            for face in range(faces):
                around = list(range(face + 1, faces)) + list(range(face))
                wanted = [other for other in around if (face, other) in joined or (other, face) in joined]
                self.assertEqual(fan(plan, face), wanted, (plan, face))
                self.assertIs(type(fan(plan, face)), list)

    def test_from_neighbour_to_neighbour(self):
        for faces in range(3, 41):
            for plan in (star(faces), zigzag(faces)):
                for face in (0, 1, faces - 2, faces - 1):
                    told = fan(plan, face)
                    self.assertEqual((told[0], told[-1]), ((face + 1) % faces, (face - 1) % faces))

    def test_no_such_face(self):
        for plan in ((3, ()), star(7), zigzag(40)):
            for face in (-1, plan[0], plan[0] + 1, -plan[0], FAR, -FAR):
                with self.subTest(face=face), self.assertRaises(BadFace):
                    fan(plan, face)


class TurnedAndMirrored(unittest.TestCase):
    def test_by_hand(self):
        plan = (5, ((0, 2), (0, 3)))
        self.assertEqual(turned(plan), (5, ((1, 3), (1, 4))))
        self.assertEqual(turned(plan, 2), (5, ((0, 2), (2, 4))))
        self.assertEqual(turned(plan, -1), (5, ((1, 4), (2, 4))))
        self.assertEqual(turned((3, ()), 7), (3, ()))
        self.assertEqual(mirrored(plan), plan)
        self.assertEqual(mirrored((5, ((0, 2), (2, 4)))), (5, ((0, 3), (1, 3))))

    def test_by_one_where_no_number_is_handed_in(self):
        for plan in ALL_PLANS:
            self.assertEqual(turned(plan), own_turned(plan, 1))
            self.assertEqual(turned(plan), turned(plan, shift=1))

    def test_by_any_number(self):
        for plan in ALL_PLANS:
            for shift in SHIFTS:
                self.assertEqual(turned(plan, shift), own_turned(plan, shift), (plan, shift))

    def test_all_the_way_round(self):
        for plan in ALL_PLANS:
            for times in (0, 1, -1, 3, FAR // 100):
                self.assertEqual(turned(plan, times * plan[0]), plan)

    def test_mirrored(self):
        for plan in ALL_PLANS:
            self.assertEqual(mirrored(plan), own_mirrored(plan))
            self.assertEqual(mirrored(mirrored(plan)), plan)

    def test_the_answer_is_a_plan(self):
        for plan in ALL_PLANS:
            for told in (turned(plan), turned(plan, -3), mirrored(plan), first_form(plan)):
                self.assertIs(is_plan(told), True)
                self.assertIs(type(told), tuple)
                self.assertIs(type(told[1]), tuple)
                self.assertTrue(all(type(cut) is tuple for cut in told[1]))


class Alike(unittest.TestCase):
    def test_turned_ones_are_alike(self):
        for plan in ALL_PLANS:
            for shift in range(plan[0]):
                self.assertIs(alike(plan, own_turned(plan, shift)), True)

    def test_just_where_a_turning_leads(self):
        for faces in range(3, 8):
            for one in plans_in_order(faces):
                ring = [own_turned(one, shift) for shift in range(faces)]
                for other in plans_in_order(faces):
                    self.assertIs(alike(one, other), other in ring, (one, other))

    def test_mirrored_ones_only_where_a_turning_leads_there_too(self):
        found = set()
        for plan in ALL_PLANS + plans_in_order(8):
            mirror = own_mirrored(plan)
            leads = any(own_turned(plan, shift) == mirror for shift in range(plan[0]))
            self.assertIs(alike(plan, mirror), leads, plan)
            found.add(leads)
        self.assertEqual(found, {True, False})

    def test_a_mirrored_one_that_is_not_alike(self):
        zed = (6, ((0, 2), (2, 5), (3, 5)))
        self.assertIs(alike(zed, mirrored(zed)), False)
        self.assertIs(alike(zigzag(40), mirrored(zigzag(40))), False)

    def test_unlike_numbers_of_faces(self):
        self.assertIs(alike((3, ()), (4, ((0, 2),))), False)
        self.assertIs(alike(star(40), star(39)), False)
        self.assertIs(alike(star(5), star(40)), False)

    def test_first_form_is_the_least_of_all_that_are_alike(self):
        for plan in ALL_PLANS:
            ring = [own_turned(plan, shift) for shift in range(plan[0])]
            self.assertEqual(first_form(plan), min(ring))

    def test_first_form_is_the_same_for_all_that_are_alike(self):
        for plan in (star(3), star(4, 1), star(6, 5), zigzag(9), zigzag(40), star(40, 17)):
            forms = {first_form(own_turned(plan, shift)) for shift in range(plan[0])}
            self.assertEqual(len(forms), 1)

    def test_first_form_by_hand(self):
        self.assertEqual(first_form((4, ((1, 3),))), (4, ((0, 2),)))
        self.assertEqual(first_form((6, ((1, 3), (1, 5), (3, 5)))), (6, ((0, 2), (0, 4), (2, 4))))
        self.assertEqual(first_form(star(40, 23)), star(40))


if __name__ == "__main__":
    unittest.main()

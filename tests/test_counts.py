"""The order and the numbers of plans: [4], and [3] as far as alike plans are counted."""

import unittest
from math import comb

from pinchfold.counts import how_many, number_of, plan_numbered, unlike
from pinchfold.errors import BadFaces, BadNumber, BadPlan
from pinchfold.plans import first_form, is_plan
from tests.samples import FAR, NO_PLANS, large_plans, own_turned, plans_in_order

NO_FACES = (2, 41, 1, 0, -1, -3, -40, 42, 1000, FAR, -FAR)


def reckoned(faces):
    """How many ways there are to cut a ring, by binomials."""
    return comb(2 * faces - 4, faces - 2) // (faces - 1)


def with_sides(sides):
    """How many ways there are to cut an arc over so many sides."""
    return 1 if sides == 1 else reckoned(sides + 1)


def unlike_by_middles(faces):
    """Unlike plans, counted by their parts and cuts.

    As in each tree, the parts of a plan and its cuts, less the pairs of a cut
    and a part at it, come to one, where those that a turning of the plan into
    itself leads to one another are taken once.
    """
    triples = sum(
        with_sides(a) * with_sides(b) * with_sides(faces - a - b)
        for a in range(1, faces - 1) for b in range(1, faces - a)
    )
    kept_triples = with_sides(faces // 3) if faces % 3 == 0 else 0
    pairs = sum(with_sides(a) * with_sides(faces - a) for a in range(2, faces - 1))
    kept_pairs = with_sides(faces // 2) if faces % 2 == 0 and faces > 2 else 0
    return (triples + 2 * kept_triples) // 3 + (pairs + kept_pairs) // 2 - pairs


def some_numbers(faces):
    count = reckoned(faces)
    spread = [count * at // 23 for at in range(23)]
    return sorted({0, 1 % count, count // 2, max(count - 2, 0), count - 1, *spread})


class HowMany(unittest.TestCase):
    def test_all_sizes(self):
        for faces in range(3, 41):
            self.assertEqual(how_many(faces), reckoned(faces))

    def test_by_hand(self):
        self.assertEqual([how_many(faces) for faces in range(3, 11)], [1, 2, 5, 14, 42, 132, 429, 1430])
        self.assertEqual(how_many(40), 176733862787006701400)

    def test_no_such_faces(self):
        for faces in NO_FACES:
            with self.subTest(faces=faces), self.assertRaises(BadFaces):
                how_many(faces)


class Numbers(unittest.TestCase):
    def test_by_hand(self):
        self.assertEqual(plan_numbered(3, 0), (3, ()))
        self.assertEqual([plan_numbered(4, number) for number in (0, 1)], [(4, ((0, 2),)), (4, ((1, 3),))])
        self.assertEqual([plan_numbered(5, number) for number in range(5)], [
            (5, ((0, 2), (0, 3))),
            (5, ((0, 2), (2, 4))),
            (5, ((0, 3), (1, 3))),
            (5, ((1, 4), (2, 4))),
            (5, ((1, 3), (1, 4))),
        ])

    def test_all_of_few_faces_in_order(self):
        for faces in range(3, 9):
            for number, plan in enumerate(plans_in_order(faces)):
                self.assertEqual(plan_numbered(faces, number), plan)
                self.assertEqual(number_of(plan), number)

    def test_some_of_many_faces_there_and_back(self):
        for faces in range(9, 41):
            for number in some_numbers(faces):
                plan = plan_numbered(faces, number)
                self.assertIs(is_plan(plan), True)
                self.assertEqual(plan[0], faces)
                self.assertEqual(number_of(plan), number)

    def test_the_first_and_the_last(self):
        for faces in range(3, 41):
            first = (faces, tuple((0, high) for high in range(2, faces - 1)))
            last = (faces, tuple((1, high) for high in range(3, faces)))
            self.assertEqual(plan_numbered(faces, 0), first)
            self.assertEqual(plan_numbered(faces, reckoned(faces) - 1), last)
            self.assertEqual((number_of(first), number_of(last)), (0, reckoned(faces) - 1))

    def test_back_and_there(self):
        for plan in large_plans():
            for shift in (0, 1, plan[0] - 1):
                moved = own_turned(plan, shift)
                self.assertEqual(plan_numbered(plan[0], number_of(moved)), moved)

    def test_the_answer_is_made_of_tuples(self):
        for plan in (plan_numbered(3, 0), plan_numbered(12, 100), plan_numbered(40, 10 ** 20)):
            self.assertIs(type(plan), tuple)
            self.assertIs(type(plan[1]), tuple)
            self.assertTrue(all(type(cut) is tuple for cut in plan[1]))

    def test_no_such_faces_whatever_the_number_is(self):
        for faces in NO_FACES:
            for number in (0, 1, -1, FAR, -FAR):
                with self.subTest(faces=faces, number=number), self.assertRaises(BadFaces):
                    plan_numbered(faces, number)

    def test_no_such_number(self):
        for faces in range(3, 41):
            for number in (-1, -2, -FAR, reckoned(faces), reckoned(faces) + 1, FAR):
                with self.subTest(faces=faces, number=number), self.assertRaises(BadNumber):
                    plan_numbered(faces, number)

    def test_no_plan_has_no_number(self):
        for why, plan in NO_PLANS.items():
            with self.subTest(why), self.assertRaises(BadPlan):
                number_of(plan)


class Unlike(unittest.TestCase):
    def test_by_first_forms(self):
        for faces in range(3, 11):
            forms = {first_form(plan) for plan in plans_in_order(faces)}
            self.assertEqual(unlike(faces), len(forms))

    def test_by_hand(self):
        self.assertEqual([unlike(faces) for faces in range(3, 13)], [1, 1, 1, 4, 6, 19, 49, 150, 442, 1424])

    def test_all_sizes(self):
        for faces in range(3, 41):
            self.assertEqual(unlike(faces), unlike_by_middles(faces), faces)

    def test_no_such_faces(self):
        for faces in NO_FACES:
            with self.subTest(faces=faces), self.assertRaises(BadFaces):
                unlike(faces)


if __name__ == "__main__":
    unittest.main()

"""The strip: [8], [9], rows: [10], what bars them: [11], and the plans that have a row."""

import unittest
from itertools import product
from time import process_time

from pinchfold.counts import how_many
from pinchfold.errors import BadPlan, BadRow, NoFold, TooLong
from pinchfold.plans import is_plan
from pinchfold.strips import all_folds, any_fold, folds, row_of, strip_order, what_bars
from tests.model import forty_faced_plans, own_order, own_places, own_row, own_stacks
from tests.samples import NO_PLANS, few_faced_plans, large_plans, plans_in_order, star, zigzag

ALL_PLANS = few_faced_plans() + plans_in_order(8) + large_plans() + forty_faced_plans()
FORTY = forty_faced_plans()

# Far more than is needed, and far less than trying all plans would take.
LITTLE_TIME = 20

NO_ROWS = {
    "the empty text": "",
    "one letter": "r",
    "two letters": "rr",
    "two letters, the second l": "rl",
    "41 letters": "r" * 41,
    "42 letters, by threes": "r" * 42,
    "far too long": "rrl" * 400,
    "begins with l": "lrr",
    "all l": "lll",
    "40 letters from l on": "l" + "r" * 39,
    "11 letters from l on": "l" + "r" * 10,
    "a large letter": "Rrr",
    "a large letter behind": "rrL",
    "another letter": "rra",
    "another letter among 12": "rrrrrxrrrrrr",
    "another letter at the end of 40": "r" * 39 + "n",
    "a blank": "rr r",
    "a blank ahead": " rrr",
    "a line feed behind": "rrr\n",
    "figures": "111",
    "a dash": "r-r",
    "hands by their names": "right",
}


def all_rows(letters):
    return ["r" + "".join(rest) for rest in product("rl", repeat=letters - 1)]


def own_bars(row):
    if (row.count("r") - row.count("l")) % 3:
        return "count"
    if all(row[at] != row[at - 1] for at in range(len(row))):
        return "turns"
    return None


def is_stretch(order, leaves):
    """Whether the leaves follow one another in the order, taken as a ring."""
    inside = [leaf in leaves for leaf in order]
    return sum(inside[at] and not inside[at - 1] for at in range(len(order))) == 1


def long_rows():
    rows = ["r" * 39, "r" * 40, "rl" * 20, "rrl" * 13, "rrl" * 13 + "r", "r" + "rl" * 19 + "l", "rr" + "rl" * 19]
    rows += ["r" * 20 + "l" * 20, "r" * 38 + "ll", "r" + "l" * 39, "rl" * 18 + "rrrr", "rllrllrlrr" * 4]
    return rows + [own_row(plan) for plan in FORTY]


class Order(unittest.TestCase):
    def test_by_hand(self):
        self.assertEqual(strip_order((3, ())), [0, 1, 2])
        self.assertEqual(strip_order((4, ((0, 2),))), [0, 1, 3, 2])
        self.assertEqual(strip_order((4, ((1, 3),))), [0, 2, 1, 3])
        self.assertEqual(strip_order((5, ((0, 2), (2, 4)))), [0, 1, 4, 2, 3])

    def test_by_putting_down(self):
        for plan in ALL_PLANS:
            told = strip_order(plan)
            self.assertIs(type(told), list)
            self.assertEqual(told, list(own_order(plan)), plan)
            self.assertEqual(sorted(told), list(range(plan[0])))
            self.assertEqual(told[0], 0)

    def test_the_stacks_of_a_place_are_two_stretches(self):
        for plan in ALL_PLANS:
            order = strip_order(plan)
            for place in own_places(plan):
                even, odd = own_stacks(plan, place)
                self.assertTrue(is_stretch(order, even), (plan, place))
                self.assertTrue(is_stretch(order, odd), (plan, place))

    def test_a_told_list_is_the_askers_own(self):
        for plan in ((3, ()), star(6), zigzag(40)):
            told = strip_order(plan)
            told.reverse()
            told.append(0)
            self.assertEqual(strip_order(plan), list(own_order(plan)))
            self.assertEqual(row_of(plan), own_row(plan))

    def test_no_plan(self):
        for why, plan in NO_PLANS.items():
            for ask in (strip_order, row_of):
                with self.subTest(why), self.assertRaises(BadPlan):
                    ask(plan)


class Rows(unittest.TestCase):
    def test_by_hand(self):
        self.assertEqual(row_of((3, ())), "rrr")
        self.assertEqual(row_of((4, ((0, 2),))), "rrll")
        self.assertEqual(row_of((4, ((1, 3),))), "rllr")
        self.assertEqual(row_of((5, ((0, 2), (2, 4)))), "rrlrr")

    def test_by_hands(self):
        for plan in ALL_PLANS:
            row = row_of(plan)
            self.assertEqual(row, own_row(plan), plan)
            self.assertEqual(len(row), plan[0])

    def test_what_each_row_has(self):
        for plan in ALL_PLANS:
            row = row_of(plan)
            self.assertEqual(row[0], "r")
            self.assertEqual((row.count("r") - row.count("l")) % 3, 0)
            self.assertIsNone(what_bars(row))


class Bars(unittest.TestCase):
    def test_by_hand(self):
        self.assertIsNone(what_bars("rrr"))
        self.assertEqual(what_bars("rrl"), "count")
        self.assertEqual(what_bars("rlrl"), "turns")
        self.assertEqual(what_bars("rlr"), "count")
        self.assertIsNone(what_bars("rllr"))
        self.assertEqual(what_bars("rl" * 20), "turns")
        self.assertEqual(what_bars("r" * 40), "count")
        # The last letter and the first one are neighbours: nothing else is alike here.
        self.assertEqual(what_bars("rlrlr"), "count")
        self.assertEqual(what_bars("r" * 20 + "l" * 19), "count")

    def test_just_the_rows_that_no_plan_has(self):
        for letters in range(3, 9):
            had = {own_row(plan) for plan in plans_in_order(letters)}
            for row in all_rows(letters):
                self.assertEqual(what_bars(row) is None, row in had, row)

    def test_all_rows_of_few_letters_and_long_ones(self):
        for letters in range(3, 13):
            for row in all_rows(letters):
                self.assertEqual(what_bars(row), own_bars(row), row)
        for row in long_rows():
            self.assertEqual(what_bars(row), own_bars(row), row)


class Folds(unittest.TestCase):
    def test_by_hand(self):
        self.assertEqual(folds("rrr"), 1)
        self.assertEqual(all_folds("rrr"), [(3, ())])
        self.assertEqual(any_fold("rrr"), (3, ()))
        self.assertEqual((folds("rrll"), folds("rllr"), folds("rlrl")), (1, 1, 0))
        self.assertEqual(all_folds("rlrl"), [])
        self.assertEqual(folds("rrrrrr"), 2)
        self.assertEqual(all_folds("rrrrrr"), [(6, ((0, 2), (0, 4), (2, 4))), (6, ((1, 3), (1, 5), (3, 5)))])

    def test_against_the_rows_of_all_plans(self):
        for letters in range(3, 9):
            had = {}
            for plan in plans_in_order(letters):
                had.setdefault(own_row(plan), []).append(plan)
            for row in all_rows(letters):
                wanted = sorted(had.get(row, []))
                self.assertEqual(folds(row), len(wanted), row)
                self.assertEqual(all_folds(row), wanted, row)
                if wanted:
                    self.assertIn(any_fold(row), wanted)
                else:
                    self.assertRaises(NoFold, any_fold, row)

    def test_all_rows_of_nine_and_ten_letters(self):
        for letters in (9, 10):
            told = []
            for row in all_rows(letters):
                found = all_folds(row)
                self.assertEqual(found, sorted(set(found)))
                self.assertEqual(len(found), folds(row))
                self.assertTrue(all(own_row(plan) == row for plan in found), row)
                told += found
            self.assertEqual(sorted(told), sorted(plans_in_order(letters)))

    def test_counts_sum_up_to_all_plans(self):
        for letters in range(3, 13):
            self.assertEqual(sum(folds(row) for row in all_rows(letters)), how_many(letters))

    def test_no_fold_just_where_something_bars(self):
        for letters in range(3, 12):
            for row in all_rows(letters):
                if own_bars(row) is None:
                    plan = any_fold(row)
                    self.assertEqual(own_row(plan), row)
                    self.assertGreater(folds(row), 0)
                else:
                    self.assertEqual(folds(row), 0)
                    with self.assertRaises(NoFold, msg=row):
                        any_fold(row)

    def test_long_rows_in_little_time(self):
        begun = process_time()
        for row in long_rows():
            if what_bars(row) is None:
                plan = any_fold(row)
                self.assertIs(is_plan(plan), True)
                self.assertEqual(own_row(plan), row)
                self.assertGreater(folds(row), 0)
            else:
                self.assertEqual(folds(row), 0)
                self.assertRaises(NoFold, any_fold, row)
        self.assertLess(process_time() - begun, LITTLE_TIME)

    def test_long_rows_by_count(self):
        # All letters alike: each leaf lies at an odd depth, so the stacks are parted into four or left alone.
        counts = {1: 1, 4: 1}
        for leaves in range(7, 39, 3):
            counts[leaves] = sum(
                counts[a] * counts[b] * counts[c] * counts[leaves - a - b - c]
                for a in range(1, leaves, 3) for b in range(1, leaves - a, 3) for c in range(1, leaves - a - b, 3)
            )
        for letters in range(3, 40, 3):
            halves = range(1, letters - 1, 3)
            wanted = sum(counts[one] * counts[letters - 1 - one] for one in halves)
            self.assertEqual(folds("r" * letters), wanted, letters)

    def test_the_answers_are_lists_of_plans(self):
        for row in ("rrr", "rlrl", "rrrrrr", "rrlrrlrrl", "rrlr" + "rrlrr"):
            told = all_folds(row)
            self.assertIs(type(told), list)
            for plan in told + [any_fold(own_row(star(9)))]:
                self.assertIs(is_plan(plan), True)
                self.assertIs(type(plan), tuple)
                self.assertIs(type(plan[1]), tuple)
                self.assertTrue(all(type(cut) is tuple for cut in plan[1]))

    def test_a_told_list_is_the_askers_own(self):
        for row in ("rrr", "rrrrrr", "rrrrrrrrr"):
            told = all_folds(row)
            kept = list(told)
            told.clear()
            self.assertEqual(all_folds(row), kept)


class Refusals(unittest.TestCase):
    def test_no_row_ahead_of_all(self):
        for why, row in NO_ROWS.items():
            for ask in (what_bars, folds, any_fold, all_folds):
                with self.subTest(why, ask=ask.__name__), self.assertRaises(BadRow):
                    ask(row)

    def test_each_place_of_another_sign(self):
        for letters in (3, 10, 11, 40):
            for at in range(letters):
                row = "r" * at + "x" + "r" * (letters - at - 1)
                for ask in (what_bars, folds, any_fold, all_folds):
                    with self.assertRaises(BadRow, msg=row):
                        ask(row)

    def test_too_long_a_row_to_list(self):
        for letters in range(11, 41):
            rows = ["r" * letters, "rl" * (letters // 2) + "r" * (letters % 2), "rr" + "rl" * 19]
            for row in rows[:2] + [rows[2][:letters]]:
                with self.assertRaises(TooLong, msg=row):
                    all_folds(row)

    def test_ten_letters_are_listed(self):
        self.assertEqual(all_folds("r" * 10), [])
        self.assertEqual(len(all_folds(own_row(star(10)))), folds(own_row(star(10))))


if __name__ == "__main__":
    unittest.main()

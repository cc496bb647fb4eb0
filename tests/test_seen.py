"""What is seen on top and beneath, painted, marked and washed: [20], with [12] to [16]."""

import unittest

from pinchfold.house import House
from tests.houses import COLOURS, LETTERS, SIDES, OwnHouse, numbers_from, paper_told
from tests.model import forty_faced_plans, own_places, own_step, own_upright, wandering
from tests.samples import few_faced_plans

FEW = few_faced_plans()
FORTY = forty_faced_plans()
PLAN = (5, ((0, 2), (2, 4)))


def folded(plan):
    house, book = House(), OwnHouse([plan])
    do_both(house, book, ("fold", "a", plan))
    return house, book


def do_both(house, book, deed):
    house.do(deed)
    book.do(deed)


def walk_to(house, plan, place):
    """Lead a paper that lies at (0, 1, front) to a place."""
    came, waiting = {(0, 1): []}, [(0, 1)]
    while place not in came:
        stand = waiting.pop(0)
        for step in (("pinch", "even"), ("pinch", "odd"), ("over",)):
            behind = own_step(plan, stand, step)
            if behind is not None and behind not in came:
                came[behind] = came[stand] + [step]
                waiting.append(behind)
    for step in came[place]:
        house.do(step[:1] + ("a",) + step[1:])


class ByHand(unittest.TestCase):
    def test_a_bare_paper(self):
        house, book = folded(PLAN)
        self.assertEqual(house.seen("a"), [
            (0, "fore", 0, "", "---"), (2, "back", 1, "", "---"), (5, "fore", 0, "", "---"),
            (7, "back", 1, "", "---"), (10, "fore", 0, "", "---"), (12, "back", 1, "", "---"),
        ])
        self.assertEqual(house.beneath("a"), [
            (1, "fore", 1, "", "---"), (0, "back", 0, "", "---"), (11, "fore", 1, "", "---"),
            (10, "back", 0, "", "---"), (6, "fore", 1, "", "---"), (5, "back", 0, "", "---"),
        ])

    def test_painted_and_marked(self):
        house, book = folded(PLAN)
        house.do(("paint", "a", 1, "gold"))
        house.do(("mark", "a", 1, "k"))
        house.do(("mark", "a", 4, "b"))
        self.assertEqual(house.seen("a")[:2], [(0, "fore", 0, "", "---"), (2, "back", 1, "gold", "k--")])
        self.assertEqual(house.seen("a")[4], (10, "fore", 0, "", "b--"))
        self.assertEqual(house.leaf("a", 2, "back"), ("gold", "-k-"))
        self.assertEqual(house.leaf("a", 2, "fore"), ("", "---"))
        self.assertEqual(house.leaf("a", 10, "fore"), ("", "b--"))
        self.assertEqual(house.leaf("a", 10, "back"), ("", "---"))

    def test_letters_go_to_the_right_on_fore_sides_and_on_backs(self):
        # Face 0 of three faces: copy 0 lies on top fore side up at (0, 1) and (0, 2), with other corners in the middle.
        house, book = folded((3, ()))
        house.do(("mark", "a", 0, "x"))
        house.do(("mark", "a", 1, "y"))
        self.assertEqual(house.seen("a")[:2], [(0, "fore", 0, "", "x--"), (2, "back", 2, "", "y--")])
        house.do(("unpinch", "a", "odd"))
        house.do(("over", "a"))
        self.assertEqual(house.lie("a"), (2, 1, 0))
        house.do(("pinch", "a", "even"))
        self.assertEqual(house.lie("a"), (0, 2, 0))
        # The corner in the middle is the corner 1 of the fore side and 0 of the back: 1, 2, 0 and 0, 2, 1 to the right.
        sight = {(copy, side): (corner, letters) for copy, side, corner, colour, letters in house.seen("a")}
        self.assertEqual(sight[(0, "fore")], (1, "--x"))
        self.assertEqual(sight[(2, "back")], (0, "-y-"))


class Letters(unittest.TestCase):
    def test_three_letters_on_each_side_of_each_leaf(self):
        """All places are gone through, and each corner that comes into the middle gets a letter of its own."""
        for plan in FEW[:22] + FEW[22:64:6]:
            house, book = folded(plan)
            self.write_all(house, book, plan)
            faces = plan[0]
            for copy in range(3 * faces):
                for side in SIDES:
                    self.assertEqual(house.leaf("a", copy, side), book.papers["a"].leaf(copy, side))
            self.assertEqual(paper_told(house, "a"), book.papers["a"].told())

    def write_all(self, house, book, plan):
        letters, at = LETTERS * 99, 0
        for place in own_places(plan):
            there = House()
            there.do(("fold", "a", plan))
            walk_to(there, plan, place)
            steps = there.deeds()[1:]
            for step in steps:
                do_both(house, book, step)
            for slot in range(6):
                do_both(house, book, ("mark", "a", slot, letters[at]))
                do_both(house, book, ("paint", "a", slot, COLOURS[at % 3]))
                at += 1
            self.assertEqual(house.seen("a"), book.papers["a"].sight(book.papers["a"].place))
            for step in steps[::-1]:
                word = {"pinch": "unpinch", "over": "over"}[step[0]]
                do_both(house, book, (word,) + step[1:])
            self.assertEqual(house.lie("a"), (0, 1, 0))
            do_both(house, book, ("about", "a"))
            do_both(house, book, ("about", "a"))
            do_both(house, book, ("about", "a"))

    def test_a_letter_in_the_place_of_any_other(self):
        house, book = folded(PLAN)
        for letter in LETTERS:
            house.do(("mark", "a", 3, letter))
            self.assertEqual(house.seen("a")[3], (7, "back", 1, "", letter + "--"))
            self.assertEqual(house.leaf("a", 7, "back"), ("", "-" + letter + "-"))

    def test_a_colour_in_the_place_of_another(self):
        house, book = folded(PLAN)
        house.do(("mark", "a", 2, "v"))
        for colour in COLOURS + COLOURS[::-1]:
            house.do(("paint", "a", 2, colour))
            self.assertEqual(house.seen("a")[2], (5, "fore", 0, colour, "v--"))
            self.assertEqual([sight[3] for sight in house.seen("a")], ["", "", colour, "", "", ""])


class Walks(unittest.TestCase):
    def check_walk(self, plan, count, seed, looks=1):
        """A walk of steps, turnings about and writing; the sights are held against the book at each so many."""
        house, book = folded(plan)
        numbers = numbers_from(seed)
        for at, step in enumerate(wandering(plan, (0, 1), count, seed)):
            do_both(house, book, step[:1] + ("a",) + step[1:])
            slot, chance = next(numbers) % 6, next(numbers) % 8
            if chance < 3:
                do_both(house, book, ("mark", "a", slot, LETTERS[next(numbers) % 26]))
            elif chance < 5:
                do_both(house, book, ("paint", "a", slot, COLOURS[next(numbers) % 3]))
            elif chance == 5:
                do_both(house, book, ("about", "a"))
            elif chance == 6:
                do_both(house, book, ("wash", "a", slot))
            if at % looks == 0:
                self.assertEqual(paper_told(house, "a"), book.papers["a"].told(), (plan, at))
        self.assertEqual(paper_told(house, "a"), book.papers["a"].told(), plan)

    def test_few_faces(self):
        for seed, plan in enumerate(FEW):
            self.check_walk(plan, 40, seed)

    def test_a_long_walk(self):
        self.check_walk(FEW[30], 400, 5, looks=3)

    def test_forty_faces(self):
        for seed, plan in enumerate(FORTY):
            self.check_walk(plan, 40, seed, looks=5)

    def test_seen_by_whatever_road(self):
        for seed, plan in enumerate(FEW[:22]):
            house, book = folded(plan)
            sights = {}
            for at, step in enumerate(wandering(plan, (0, 1), 6, seed)):
                do_both(house, book, step[:1] + ("a",) + step[1:])
                do_both(house, book, ("mark", "a", at, LETTERS[at]))
            for step in wandering(plan, house.lie("a")[:2], 120, seed + 1):
                sight = (house.seen("a"), house.beneath("a"))
                self.assertEqual(sights.setdefault(house.lie("a"), sight), sight)
                house.do(step[:1] + ("a",) + step[1:])


class Turnings(unittest.TestCase):
    def written(self, plan, seed):
        house, book = folded(plan)
        for at, step in enumerate(wandering(plan, (0, 1), 15, seed)):
            house.do(step[:1] + ("a",) + step[1:])
            house.do(("mark", "a", at % 6, LETTERS[at]))
            house.do(("paint", "a", (at + 2) % 6, COLOURS[at % 3]))
        return house

    def test_beneath_is_what_is_seen_of_the_paper_turned_over(self):
        for seed, plan in enumerate(FEW + FORTY[:2]):
            house = self.written(plan, seed)
            above, below = house.seen("a"), house.beneath("a")
            house.do(("over", "a"))
            self.assertEqual((house.seen("a"), house.beneath("a")), (below, above))
            house.do(("over", "a"))
            self.assertEqual((house.seen("a"), house.beneath("a")), (above, below))

    def test_turned_about(self):
        for seed, plan in enumerate(FEW + FORTY[:2]):
            house = self.written(plan, seed)
            turn = 2 if own_upright(plan, house.lie("a")[:2]) else 4
            above, lie = house.seen("a"), house.lie("a")
            for times in range(3):
                house.do(("about", "a"))
                self.assertEqual(house.lie("a"), lie[:2] + ((lie[2] + times + 1) % 3,))
                above = above[turn:] + above[:turn]
                self.assertEqual(house.seen("a"), above)
            self.assertEqual(house.lie("a"), lie)

    def test_a_pinch_and_its_unpinch(self):
        for seed, plan in enumerate(FEW):
            house = self.written(plan, seed)
            told = paper_told(house, "a")
            for way in ("even", "odd"):
                if own_step(plan, house.lie("a")[:2], ("pinch", way)) is not None:
                    house.do(("pinch", "a", way))
                    house.do(("unpinch", "a", way))
                    self.assertEqual(paper_told(house, "a"), told)
                    for times in range(3):
                        house.do(("pinch", "a", way))
                    self.assertEqual(paper_told(house, "a"), told)


class Washed(unittest.TestCase):
    def test_that_leaf_side_alone(self):
        for plan in (FEW[0], FEW[2], PLAN, FEW[40], FORTY[3]):
            house, book = folded(plan)
            for place in own_places(plan)[:8]:
                there = House()
                there.do(("fold", "a", plan))
                walk_to(there, plan, place)
                steps = there.deeds()[1:]
                for step in steps:
                    do_both(house, book, step)
                for slot in range(6):
                    do_both(house, book, ("paint", "a", slot, "red"))
                    do_both(house, book, ("mark", "a", slot, "p"))
                for step in steps[::-1]:
                    do_both(house, book, ({"pinch": "unpinch", "over": "over"}[step[0]],) + step[1:])
            for slot in range(6):
                self.check_wash(house, slot, plan[0])

    def check_wash(self, house, slot, faces):
        house = house.twin()
        copy, side = house.seen("a")[slot][:2]
        ahead = {(at, which): house.leaf("a", at, which) for at in range(3 * faces) for which in SIDES}
        self.assertNotEqual(ahead[(copy, side)], ("", "---"))
        house.do(("wash", "a", slot))
        behind = {(at, which): house.leaf("a", at, which) for at in range(3 * faces) for which in SIDES}
        ahead[(copy, side)] = ("", "---")
        self.assertEqual(behind, ahead)
        self.assertEqual(house.seen("a")[slot][3:], ("", "---"))

    def test_a_bare_side_can_be_washed_and_a_washed_one_written_on(self):
        house, book = folded(PLAN)
        house.do(("wash", "a", 0))
        self.assertEqual(house.seen("a")[0], (0, "fore", 0, "", "---"))
        house.do(("mark", "a", 0, "e"))
        house.do(("wash", "a", 0))
        house.do(("paint", "a", 0, "blue"))
        self.assertEqual(house.seen("a")[0], (0, "fore", 0, "blue", "---"))


class Kinds(unittest.TestCase):
    def test_lists_of_six_tuples(self):
        for plan in FEW + FORTY:
            house, book = folded(plan)
            for told in (house.seen("a"), house.beneath("a")):
                self.assertIs(type(told), list)
                self.assertEqual([type(sight) for sight in told], [tuple] * 6)
                for copy, side, corner, colour, letters in told:
                    self.assertEqual([type(thing) for thing in (copy, side, corner, colour, letters)],
                                     [int, str, int, str, str])


if __name__ == "__main__":
    unittest.main()

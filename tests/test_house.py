"""The house, its papers, deeds and refusals: [18]."""

import unittest
from itertools import product

from pinchfold import errors
from pinchfold.errors import BadDeed, BadName, BadNumber, BadPlan, BadStep, Full, NoPaper, OtherRow, Taken, Unfolded
from pinchfold.house import House
from tests.houses import (
    COLOURS, COUNTS, LETTERS, NO_COLOURS, NO_LETTERS, NO_NAMES, NO_SIDES, NO_SLOTS, SIDES, OwnHouse, all_told,
    deeds_at_will, paper_told,
)
from tests.model import NO_WAYS, WAYS, forty_faced_plans, own_places, own_row, own_step, scattered
from tests.samples import FAR, NO_PLANS, few_faced_plans, plans_in_order, star, zigzag

FEW = few_faced_plans()
FORTY = forty_faced_plans()
TWELVE = list("abcdefghijkl")
PLAN = (5, ((0, 2), (2, 4)))


def full_house():
    house = House()
    for at, name in enumerate(TWELVE):
        house.do(("fold", name, FEW[at]))
    return house


def busy_house():
    """A folded paper that cannot be pinched even, an unfolded one, and a deed that can be done again."""
    house = House()
    for deed in (
        ("fold", "folded", PLAN), ("fold", "strip", star(4)), ("paint", "strip", 1, "gold"), ("mark", "folded", 0, "q"),
        ("unfold", "strip"), ("pinch", "folded", "odd"), ("paint", "folded", 3, "red"), ("unpinch", "folded", "odd"),
        ("about", "folded"),
    ):
        house.do(deed)
    house.back()
    return house


def busy_book():
    book = OwnHouse(FEW + FORTY)
    for deed in busy_house().deeds():
        book.do(deed)
    book.do(("about", "folded"))
    book.back()
    return book


class Refused(unittest.TestCase):
    def check_refused(self, house, deed, name):
        """Hold the refusal against its name, and that nothing changed behind it."""
        ahead = all_told(house)
        with self.assertRaises(errors.PinchError, msg=(deed, name)) as caught:
            house.do(deed)
        self.assertEqual(type(caught.exception).__name__, name, deed)
        self.assertEqual(all_told(house), ahead, deed)
        return caught.exception


class Deeds(unittest.TestCase):
    def test_an_empty_house(self):
        house = House()
        self.assertEqual((len(house), house.names(), house.deeds()), (0, [], []))

    def test_fold_and_drop(self):
        house = House()
        self.assertIsNone(house.do(("fold", "b", PLAN)))
        self.assertIsNone(house.do(("fold", "a", (3, ()))))
        self.assertEqual((len(house), house.names()), (2, ["a", "b"]))
        self.assertEqual((house.plan("b"), house.lie("b"), house.row("b")), (PLAN, (0, 1, 0), "rrlrr"))
        self.assertEqual((house.plan("a"), house.lie("a"), house.row("a")), ((3, ()), (0, 1, 0), "rrr"))
        self.assertIs(house.folded("a"), True)
        self.assertIsNone(house.do(("drop", "b")))
        self.assertEqual((len(house), house.names()), (1, ["a"]))
        self.assertRaises(NoPaper, house.plan, "b")
        self.assertEqual(house.deeds(), [("fold", "b", PLAN), ("fold", "a", (3, ())), ("drop", "b")])

    def test_moves(self):
        house = House()
        house.do(("fold", "a", PLAN))
        for deed, lie in (
            (("pinch", "a", "odd"), (2, 0, 0)), (("about", "a"), (2, 0, 1)), (("pinch", "a", "even"), (4, 2, 1)),
            (("over", "a"), (2, 4, 1)), (("about", "a"), (2, 4, 2)), (("about", "a"), (2, 4, 0)),
            (("unpinch", "a", "even"), (4, 3, 0)), (("unpinch", "a", "even"), (3, 2, 0)),
        ):
            self.assertIsNone(house.do(deed))
            self.assertEqual(house.lie("a"), lie, deed)
            self.assertIs(type(house.lie("a")), tuple)
            self.assertEqual(house.plan("a"), PLAN)

    def test_each_name_that_is_one(self):
        for name in ("a", "z", "az", "abcdefgh", "zzzzzzzz", "fold", "none", "even", "red"):
            house = House()
            house.do(("fold", name, PLAN))
            self.assertEqual(house.names(), [name])

    def test_names_are_rising(self):
        house = House()
        for name in ("m", "b", "zz", "ba", "a", "z", "abcdefgh", "ab"):
            house.do(("fold", name, (3, ())))
        self.assertEqual(house.names(), ["a", "ab", "abcdefgh", "b", "ba", "m", "z", "zz"])

    def test_each_plan_is_folded(self):
        for plan in FEW + FORTY:
            house = House()
            house.do(("fold", "a", plan))
            self.assertEqual((house.plan("a"), house.lie("a"), house.row("a")), (plan, (0, 1, 0), own_row(plan)))
            self.assertIs(house.folded("a"), True)

    def test_papers_do_not_change_one_another(self):
        house = House()
        for name in TWELVE:
            house.do(("fold", name, PLAN))
        others = {name: paper_told(house, name) for name in TWELVE}
        for at, name in enumerate(TWELVE):
            house.do(("pinch", name, "odd"))
            house.do(("paint", name, at % 6, "blue"))
            house.do(("mark", name, at % 6, "k"))
            del others[name]
            for other in others:
                self.assertEqual(paper_told(house, other), others[other])

    def test_by_the_tests_own_book(self):
        plans = FEW[:9] + FORTY[3:6] + [(3, ((0, 2),)), (41, ())]
        names = ("a", "b", "c", "abcdefgh", "d", "A", "")
        done, refused = {}, {}
        for seed in range(4):
            house, book = House(), OwnHouse(FEW + FORTY)
            deeds = deeds_at_will(plans, names, seed)
            for count in range(400):
                deed = next(deeds)
                wanted = book.refusal(deed)
                if wanted is None:
                    self.assertIsNone(house.do(deed))
                    book.do(deed)
                    done[deed[0]] = True
                else:
                    with self.assertRaises(getattr(errors, wanted), msg=deed):
                        house.do(deed)
                    refused[wanted] = True
                if count % 8 == 0:
                    self.assertEqual(all_told(house), book.told(), deed)
            self.assertEqual(all_told(house), book.told())
        self.assertEqual(sorted(done), sorted(COUNTS))
        self.assertEqual(sorted(refused), [
            "BadColour", "BadLetter", "BadName", "BadPlan", "BadSlot", "BadWay", "Folded", "NoPaper", "NoPinch",
            "OtherRow", "Taken", "Unfolded",
        ])


class Refusals(Refused):
    def test_fold(self):
        plans = [PLAN, (3, ()), (3, ((0, 2),))]
        for house, twelve in ((House(), False), (full_house(), True)):
            for name, plan in product(("a", "zz", "A", ""), plans):
                due = [
                    ("BadName", name in ("A", "")), ("Taken", name == "a" and twelve),
                    ("BadPlan", plan == plans[2]), ("Full", twelve),
                ]
                first = [refusal for refusal, is_due in due if is_due][:1]
                if first:
                    self.check_refused(house, ("fold", name, plan), first[0])

    def test_fold_of_each_bad_name(self):
        for house in (House(), full_house()):
            for name in NO_NAMES:
                for plan in (PLAN, (3, ((0, 2),))):
                    self.check_refused(house, ("fold", name, plan), "BadName")

    def test_fold_and_refold_of_each_bad_plan(self):
        house = busy_house()
        for why, plan in NO_PLANS.items():
            with self.subTest(why):
                self.check_refused(house, ("fold", "new", plan), "BadPlan")
                self.check_refused(house, ("fold", "folded", plan), "Taken")
                self.check_refused(house, ("refold", "strip", plan), "BadPlan")
                self.check_refused(house, ("refold", "folded", plan), "Folded")
                self.check_refused(house, ("refold", "new", plan), "NoPaper")

    def test_names_of_no_paper_go_ahead_of_all_else(self):
        house = busy_house()
        for name in NO_NAMES + ("a", "fold", "folde", "foldedx", "strips", "stri"):
            self.check_refused(house, ("drop", name), "NoPaper")
            for deed in (("over", name), ("about", name), ("unfold", name)):
                self.check_refused(house, deed, "NoPaper")
            for slot in (0, 6):
                self.check_refused(house, ("paint", name, slot, "red"), "NoPaper")
                self.check_refused(house, ("paint", name, slot, ""), "NoPaper")
                self.check_refused(house, ("mark", name, slot, "a"), "NoPaper")
                self.check_refused(house, ("mark", name, slot, ""), "NoPaper")
                self.check_refused(house, ("wash", name, slot), "NoPaper")
            for way in ("even", "odd", "Even"):
                self.check_refused(house, ("pinch", name, way), "NoPaper")
                self.check_refused(house, ("unpinch", name, way), "NoPaper")

    def test_an_unfolded_paper_goes_ahead_of_all_but_its_name(self):
        house = busy_house()
        for deed in (("over", "strip"), ("about", "strip"), ("unfold", "strip")):
            self.check_refused(house, deed, "Unfolded")
        for word, way in product(("pinch", "unpinch"), WAYS + NO_WAYS):
            self.check_refused(house, (word, "strip", way), "Unfolded")
        for slot in (0, 5) + NO_SLOTS:
            self.check_refused(house, ("wash", "strip", slot), "Unfolded")
            for colour in COLOURS + NO_COLOURS:
                self.check_refused(house, ("paint", "strip", slot, colour), "Unfolded")
            for letter in ("a",) + NO_LETTERS:
                self.check_refused(house, ("mark", "strip", slot, letter), "Unfolded")

    def test_ways(self):
        house = busy_house()
        for word, way in product(("pinch", "unpinch"), NO_WAYS):
            self.check_refused(house, (word, "folded", way), "BadWay")
        self.check_refused(house, ("pinch", "folded", "even"), "NoPinch")
        self.check_refused(house, ("unpinch", "folded", "even"), "NoPinch")

    def test_no_pinch_at_each_place(self):
        for plan in FEW[:22] + FORTY[4:5]:
            house, met = House(), {}
            house.do(("fold", "a", plan))
            waiting = [((0, 1), [])]
            while waiting:
                place, steps = waiting.pop()
                if place in met:
                    continue
                met[place] = True
                there = house.twin()
                for step in steps:
                    there.do(step)
                self.assertEqual(there.lie("a")[:2], place)
                for word, way in product(("pinch", "unpinch"), WAYS):
                    behind = own_step(plan, place, (word, way))
                    if behind is None:
                        self.assertRaises(errors.NoPinch, there.do, (word, "a", way))
                    else:
                        waiting.append((behind, steps + [(word, "a", way)]))
                waiting.append((place[::-1], steps + [("over", "a")]))
            self.assertEqual(sorted(met), own_places(plan))

    def test_slots_colours_and_letters(self):
        house = busy_house()
        for slot in NO_SLOTS:
            self.check_refused(house, ("wash", "folded", slot), "BadSlot")
            for colour in COLOURS + NO_COLOURS:
                self.check_refused(house, ("paint", "folded", slot, colour), "BadSlot")
            for letter in ("a", "z") + NO_LETTERS:
                self.check_refused(house, ("mark", "folded", slot, letter), "BadSlot")
        for slot in range(6):
            for colour in NO_COLOURS:
                self.check_refused(house, ("paint", "folded", slot, colour), "BadColour")
            for letter in NO_LETTERS:
                self.check_refused(house, ("mark", "folded", slot, letter), "BadLetter")

    def test_tuples_that_are_no_deeds(self):
        house = busy_house()
        for deed in (
            (), ("",), ("", "folded"), ("Fold", "new", PLAN), ("FOLD", "new", PLAN), ("fold ", "new", PLAN),
            ("unmark", "folded", 0), ("undo",), ("redo",), ("names",), ("lie", "folded"), ("seen", "folded"),
            ("even", "folded"), ("turn", "folded"), ("pinched", "folded", "odd"), ("pinc", "folded", "odd"),
            ("fold\n", "new", PLAN), ("back",), ("again",), ("folded", "folded"), ("repaint", "folded", 0, "red"),
        ):
            self.check_refused(house, deed, "BadDeed")

    def test_another_count_of_things(self):
        things = {
            "fold": ("new", PLAN), "drop": ("folded",), "pinch": ("folded", "odd"), "unpinch": ("folded", "odd"),
            "over": ("folded",), "about": ("folded",), "paint": ("folded", 0, "red"), "mark": ("folded", 0, "a"),
            "wash": ("folded", 0), "unfold": ("folded",), "refold": ("strip", star(4)),
        }
        self.assertEqual({word: 1 + len(told) for word, told in things.items()}, COUNTS)
        house = busy_house()
        for word, told in things.items():
            for fewer in range(len(told)):
                self.check_refused(house, (word,) + told[:fewer], "BadDeed")
            for more in (("even",), ("odd", "odd"), (0,), (PLAN,), ("", "", "")):
                self.check_refused(house, (word,) + told + more, "BadDeed")
            # Ahead of all that is wrong with its things.
            self.check_refused(house, (word, "nobody") + told[1:] + ("even",), "BadDeed")
            house.twin().do((word,) + told)

    def test_all_at_once_by_the_tests_own_book(self):
        house, book = busy_house(), busy_book()
        self.assertEqual(all_told(house), book.told())
        names = ("folded", "strip", "new", "N")
        plans = (PLAN, star(4), star(4, 1), (4, ((0, 1),)), (FAR, ()))
        deeds = list(product(("drop", "over", "about", "unfold"), names))
        deeds += list(product(("fold", "refold"), names, plans))
        deeds += list(product(("pinch", "unpinch"), names, ("even", "odd", "Odd", "")))
        deeds += list(product(("wash",), names, (-1, 0, 5, 6)))
        deeds += list(product(("paint",), names, (-1, 0, 5, 6), ("red", "gold", "", "pink")))
        deeds += list(product(("mark",), names, (-1, 0, 5, 6), ("a", "z", "", "A", "az")))
        for deed in deeds:
            wanted = book.refusal(deed)
            if wanted is None:
                self.assertIsNone(house.twin().do(deed))
            else:
                self.check_refused(house, deed, wanted)


class Twelve(Refused):
    def test_the_thirteenth(self):
        house = full_house()
        self.assertEqual(len(house), 12)
        self.check_refused(house, ("fold", "m", PLAN), "Full")
        self.check_refused(house, ("fold", "M", PLAN), "BadName")
        self.check_refused(house, ("fold", "a", PLAN), "Taken")
        self.check_refused(house, ("fold", "m", (5, ())), "BadPlan")
        self.check_refused(house, ("fold", "M", (5, ())), "BadName")
        self.check_refused(house, ("fold", "a", (5, ())), "Taken")

    def test_an_unfolded_paper_counts(self):
        house = full_house()
        for name in TWELVE:
            house.do(("unfold", name))
        self.assertEqual(len(house), 12)
        self.check_refused(house, ("fold", "m", PLAN), "Full")
        self.check_refused(house, ("fold", "a", PLAN), "Taken")
        house.do(("drop", "c"))
        house.do(("fold", "m", PLAN))
        self.assertEqual(len(house), 12)
        self.check_refused(house, ("fold", "c", PLAN), "Full")

    def test_room_again_by_taking_back(self):
        house = full_house()
        house.back()
        self.assertEqual((len(house), house.names()), (11, TWELVE[:11]))
        house.do(("fold", "m", PLAN))
        self.check_refused(house, ("fold", "l", PLAN), "Full")

    def test_a_dropped_name_is_folded_anew_and_bare(self):
        house = House()
        for plan in (PLAN, star(4), FORTY[5]):
            house.do(("fold", "a", plan))
            bare = all_told(house)[4]
            house.do(("pinch", "a", "odd"))
            for slot in range(6):
                house.do(("paint", "a", slot, "gold"))
                house.do(("mark", "a", slot, "x"))
            house.do(("drop", "a"))
            self.assertEqual((len(house), house.names()), (0, []))
            self.check_refused(house, ("over", "a"), "NoPaper")
            house.do(("fold", "a", plan))
            self.assertEqual(all_told(house)[4], bare)
            self.assertEqual(house.lie("a"), (0, 1, 0))
            leaves = {house.leaf("a", copy, side) for copy in range(3 * plan[0]) for side in SIDES}
            self.assertEqual(leaves, {("", "---")})
            house.do(("unfold", "a"))
            house.do(("drop", "a"))
            self.assertEqual(len(house), 0)


class Questions(unittest.TestCase):
    def test_no_paper_goes_first(self):
        house = busy_house()
        for name in NO_NAMES + ("a", "new", "nobody"):
            for ask in (house.folded, house.row, house.plan, house.lie, house.seen, house.beneath):
                self.assertRaises(NoPaper, ask, name)
            for copy, side in product((0, -1, 99, FAR, -FAR), ("fore", "back", "", "top")):
                self.assertRaises(NoPaper, house.leaf, name, copy, side)

    def test_unfolded(self):
        house = busy_house()
        for ask in (house.plan, house.lie, house.seen, house.beneath):
            self.assertRaises(Unfolded, ask, "strip")
        self.assertIs(house.folded("strip"), False)
        self.assertIs(house.folded("folded"), True)
        self.assertEqual(house.row("strip"), own_row(star(4)))

    def test_questions_change_nothing(self):
        house = busy_house()
        ahead = all_told(house)
        for times in range(3):
            self.assertEqual(all_told(house), ahead)
        self.assertEqual(house.again(), ("about", "folded"))

    def test_each_leaf(self):
        for plan in [FEW[0], FEW[1], FEW[5], PLAN, zigzag(7), FORTY[0], FORTY[6]]:
            house, book = House(), OwnHouse([plan])
            steps = [("fold", "a", plan)]
            for at, way in enumerate(("odd", "odd", "even", "odd", "odd", "even")):
                steps += [("pinch", "a", way), ("paint", "a", at % 6, COLOURS[at % 3])]
                steps += [("mark", "a", at % 6, LETTERS[at]), ("mark", "a", (at + 3) % 6, LETTERS[-at])]
                steps += [("over", "a"), ("mark", "a", at, "m"), ("about", "a")]
            for deed in steps:
                if book.refusal(deed) is None:
                    house.do(deed)
                    book.do(deed)
            self.check_leaves(house, book.papers["a"], plan[0])
            house.do(("unfold", "a"))
            self.check_leaves(house, book.papers["a"], plan[0])

    def check_leaves(self, house, own_paper, faces):
        written = 0
        for copy in range(3 * faces):
            for side in SIDES:
                told = house.leaf("a", copy, side)
                self.assertIs(type(told), tuple)
                self.assertEqual(told, own_paper.leaf(copy, side))
                written += told != ("", "---")
            for side in NO_SIDES:
                self.assertRaises(BadStep, house.leaf, "a", copy, side)
        self.assertGreater(written, 5)
        for copy in (-1, 3 * faces, 3 * faces + 1, -3 * faces, FAR, -FAR):
            for side in SIDES + NO_SIDES:
                self.assertRaises(BadNumber, house.leaf, "a", copy, side)


def plans_by_row():
    by_row = {}
    for plan in [plan for faces in range(3, 9) for plan in plans_in_order(faces)]:
        by_row.setdefault(own_row(plan), []).append(plan)
    return by_row


class Strips(Refused):
    def test_row_and_leaves_stay(self):
        by_row = plans_by_row()
        several = [row for row in by_row if len(by_row[row]) > 1]
        self.assertGreater(len(several), 5)
        for row in several + list(by_row)[:8]:
            plans = by_row[row]
            house, book = House(), OwnHouse(plans)
            for deed in self.some_writing(plans[0]):
                if book.refusal(deed) is None:
                    house.do(deed)
                    book.do(deed)
            for plan in plans + plans[:1]:
                for deed in (("unfold", "a"), ("refold", "a", plan)):
                    self.assertIsNone(house.do(deed))
                    book.do(deed)
                    self.assertEqual(all_told(house), book.told())
                    self.assertEqual(house.row("a"), row)
                self.assertEqual((house.plan("a"), house.lie("a")), (plan, (0, 1, 0)))
                for deed in (("pinch", "a", "odd"), ("mark", "a", 2, "w"), ("over", "a"), ("about", "a")):
                    house.do(deed)
                    book.do(deed)
                    self.assertEqual(all_told(house), book.told())

    def some_writing(self, plan):
        deeds = [("fold", "a", plan)]
        for at in range(12):
            deeds += [("pinch", "a", WAYS[at % 5 % 2]), ("paint", "a", at % 6, COLOURS[at % 3])]
            deeds += [("mark", "a", (at + 1) % 6, LETTERS[at]), ("mark", "a", (at + 2) % 6, LETTERS[at + 12])]
            deeds += [("over", "a")] if at % 4 == 3 else []
        return deeds

    def test_forty_faces_refolded(self):
        for plan in FORTY:
            house = House()
            house.do(("fold", "a", plan))
            house.do(("pinch", "a", "odd"))
            house.do(("paint", "a", 2, "blue"))
            house.do(("mark", "a", 5, "f"))
            leaves = [house.leaf("a", copy, side) for copy in range(120) for side in SIDES]
            house.do(("unfold", "a"))
            self.assertEqual((house.folded("a"), house.row("a")), (False, own_row(plan)))
            self.assertEqual([house.leaf("a", copy, side) for copy in range(120) for side in SIDES], leaves)
            house.do(("refold", "a", plan))
            self.assertEqual((house.folded("a"), house.plan("a"), house.lie("a")), (True, plan, (0, 1, 0)))
            self.assertEqual([house.leaf("a", copy, side) for copy in range(120) for side in SIDES], leaves)

    def test_another_row(self):
        house = House()
        plans = FEW[:22] + [zigzag(6), zigzag(7)] + FORTY[:2]
        for strip in plans:
            house.do(("fold", "a", strip))
            house.do(("mark", "a", 0, "h"))
            house.do(("unfold", "a"))
            for plan in plans:
                if own_row(plan) != own_row(strip):
                    refusal = self.check_other_row(house, plan)
                    self.assertEqual((refusal.had, refusal.wanted), (own_row(strip), own_row(plan)))
                else:
                    house.twin().do(("refold", "a", plan))
            self.check_refused(house, ("unfold", "a"), "Unfolded")
            house.do(("refold", "a", strip))
            for plan in (strip, (3, ()), (3, ((0, 2),))):
                self.check_refused(house, ("refold", "a", plan), "Folded")
            house.do(("drop", "a"))
            while house.deeds():
                house.back()

    def check_other_row(self, house, plan):
        with self.assertRaises(OtherRow) as caught:
            house.do(("refold", "a", plan))
        self.assertIs(house.folded("a"), False)
        return caught.exception

    def test_nothing_changed_behind_another_row(self):
        house = busy_house()
        refusal = self.check_refused(house, ("refold", "strip", PLAN), "OtherRow")
        self.assertEqual((refusal.had, refusal.wanted), ("rrll", "rrlrr"))


class Kinds(unittest.TestCase):
    def test_refusals_of_folds_are_of_their_classes(self):
        house = full_house()
        for deed, refusal in (
            (("fold", "A", PLAN), BadName), (("fold", "a", PLAN), Taken), (("fold", "zz", (2, ())), BadPlan),
            (("fold", "zz", PLAN), Full), (("fold", "zz"), BadDeed),
        ):
            self.assertRaises(refusal, house.do, deed)

    def test_what_is_handed_in_stays_and_what_is_told_is_plain(self):
        house = House()
        plan = scattered(9, 3)
        deed = ("fold", "a", plan)
        house.do(deed)
        self.assertEqual(deed, ("fold", "a", scattered(9, 3)))
        self.assertIs(type(house.plan("a")), tuple)
        self.assertIs(type(house.row("a")), str)
        self.assertIs(type(house.names()), list)
        self.assertIs(type(house.deeds()), list)
        self.assertTrue(all(type(told) is tuple for told in house.deeds()))


if __name__ == "__main__":
    unittest.main()

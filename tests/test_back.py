"""Taking back, doing again, twins: [19]; and lists that are the asker's own: [1]."""

import unittest

from pinchfold.errors import BadDeed, NoBack, NoForth, NoPaper, NoPinch, OtherRow, PinchError
from pinchfold.house import House
from tests.houses import OwnHouse, all_told, deeds_at_will, numbers_from
from tests.model import forty_faced_plans
from tests.samples import few_faced_plans, star

FEW = few_faced_plans()
FORTY = forty_faced_plans()
PLAN = (5, ((0, 2), (2, 4)))
PLANS = FEW[:9] + [FORTY[3]]
NAMES = ("a", "b", "c", "d")
# A deed of each kind, the one behind the other.
ALL_KINDS = [
    ("fold", "a", star(4)), ("mark", "a", 0, "a"), ("pinch", "a", "odd"), ("paint", "a", 1, "red"), ("fold", "b", PLAN),
    ("over", "a"), ("about", "b"), ("mark", "a", 1, "m"), ("unpinch", "a", "odd"), ("wash", "a", 1), ("unfold", "a"),
    ("refold", "a", star(4)), ("drop", "a"), ("fold", "a", (3, ())),
]


def good_deeds(count, seed, plans=tuple(PLANS)):
    """So many deeds that are not refused, by the book, and the book behind them."""
    book, found = OwnHouse(plans), []
    for deed in deeds_at_will(plans, NAMES, seed):
        if len(found) == count:
            return found, book
        if book.refusal(deed) is None:
            book.do(deed)
            found.append(deed)


class Back(unittest.TestCase):
    def test_an_empty_house(self):
        house = House()
        self.assertRaises(NoBack, house.back)
        self.assertRaises(NoForth, house.again)
        self.assertEqual(all_told(house), (0, [], [], [], {}))

    def test_each_kind_of_deed(self):
        house, states = House(), []
        for deed in ALL_KINDS:
            states.append(all_told(house))
            house.do(deed)
        end = all_told(house)
        for count, deed in enumerate(ALL_KINDS[::-1]):
            self.assertEqual(house.back(), deed)
            wanted = states.pop()
            self.assertEqual(all_told(house), wanted[:3] + (ALL_KINDS[len(ALL_KINDS) - 1 - count:],) + wanted[4:])
        self.assertRaises(NoBack, house.back)
        for deed in ALL_KINDS:
            self.assertEqual(house.again(), deed)
        self.assertRaises(NoForth, house.again)
        self.assertEqual(all_told(house), end)

    def test_to_and_fro_by_the_tests_own_book(self):
        for seed in range(3):
            house, book = House(), OwnHouse(PLANS)
            numbers = numbers_from(seed + 50)
            deeds = deeds_at_will(PLANS, NAMES, seed)
            for count in range(400):
                chance = next(numbers) % 10
                if chance < 3:
                    self.step(house.back, book.past, book.back, NoBack)
                elif chance < 5:
                    self.step(house.again, book.future, book.again, NoForth)
                else:
                    self.do(house, book, next(deeds))
                if count % 5 == 0:
                    self.assertEqual(all_told(house), book.told())

    def step(self, ask, there, own, refusal):
        if there:
            self.assertEqual(ask(), own())
        else:
            self.assertRaises(refusal, ask)

    def do(self, house, book, deed):
        if book.refusal(deed) is None:
            house.do(deed)
            book.do(deed)
        else:
            self.assertRaises(PinchError, house.do, deed)

    def test_two_hundred_deeds(self):
        deeds, book = good_deeds(200, 11)
        house, states = House(), []
        for deed in deeds:
            states.append(all_told(house))
            house.do(deed)
        self.assertEqual(house.deeds(), deeds)
        end = all_told(house)
        self.assertEqual(end, book.told())
        for round_trip in range(2):
            for at in range(199, -1, -1):
                self.assertEqual(house.back(), deeds[at])
                self.assertEqual((len(house), house.names(), house.deeds()), states[at][:3])
                if at % 10 == 0:
                    self.assertEqual(all_told(house)[4], states[at][4])
            self.assertRaises(NoBack, house.back)
            self.assertEqual(len(house), 0)
            for at in range(200):
                self.assertEqual(house.again(), deeds[at])
                self.assertEqual(house.deeds(), deeds[:at + 1])
            self.assertRaises(NoForth, house.again)
            self.assertEqual(all_told(house), end)

    def test_a_refused_deed_and_questions_let_nothing_go(self):
        house = House()
        for deed in ALL_KINDS[:7]:
            house.do(deed)
        for times in range(3):
            house.back()
        ahead = all_told(house)
        for deed, refusal in (
            (("fold", "a", PLAN), PinchError), (("over", "nobody"), NoPaper), ((), BadDeed), (("pinch", "a"), BadDeed),
            (("paint", "a", 6, "red"), PinchError), (("mark", "a", 0, "A"), PinchError),
            (("refold", "a", PLAN), PinchError),
            (("fold", "n", (5, ())), PinchError),
        ):
            self.assertRaises(refusal, house.do, deed)
            self.assertEqual(all_told(house), ahead)
        self.assertRaises(NoPaper, house.lie, "nobody")
        self.assertEqual(all_told(house), ahead)
        self.assertEqual([house.again() for times in range(3)], ALL_KINDS[4:7])
        self.assertRaises(NoForth, house.again)
        self.assertEqual(house.deeds(), ALL_KINDS[:7])

    def test_a_done_deed_lets_go_what_was_ahead(self):
        for other in (("about", "a"), ALL_KINDS[4], ("drop", "a"), ("fold", "z", (3, ()))):
            house = House()
            for deed in ALL_KINDS[:7]:
                house.do(deed)
            for times in range(3):
                house.back()
            house.do(other)
            self.assertRaises(NoForth, house.again)
            self.assertEqual(house.deeds(), ALL_KINDS[:4] + [other])
            self.assertEqual(house.back(), other)
            self.assertEqual(house.again(), other)
            self.assertRaises(NoForth, house.again)

    def test_refusals_at_the_ends_change_nothing(self):
        house = House()
        house.do(ALL_KINDS[0])
        ahead = all_told(house)
        self.assertRaises(NoForth, house.again)
        self.assertEqual(all_told(house), ahead)
        house.back()
        ahead = all_told(house)
        self.assertRaises(NoBack, house.back)
        self.assertEqual(all_told(house), ahead)
        self.assertEqual(house.again(), ALL_KINDS[0])

    def test_a_drop_taken_back_brings_all_back(self):
        house = House()
        for deed in ALL_KINDS[:4]:
            house.do(deed)
        ahead = all_told(house)
        house.do(("drop", "a"))
        house.back()
        self.assertEqual(all_told(house)[:3] + all_told(house)[4:], ahead[:3] + ahead[4:])

    def test_an_unfolding_taken_back_brings_the_lie_back(self):
        house = House()
        for deed in (
            ("fold", "a", PLAN), ("pinch", "a", "odd"), ("about", "a"), ("unfold", "a"), ("refold", "a", PLAN),
        ):
            house.do(deed)
        self.assertEqual(house.lie("a"), (0, 1, 0))
        house.back()
        self.assertIs(house.folded("a"), False)
        house.back()
        self.assertEqual((house.plan("a"), house.lie("a")), (PLAN, (2, 0, 1)))


class Twins(unittest.TestCase):
    def house_with_both(self):
        house = House()
        for deed in ALL_KINDS:
            house.do(deed)
        for times in range(5):
            house.back()
        return house

    def test_a_twin_has_all(self):
        house = self.house_with_both()
        twin = house.twin()
        self.assertIs(type(twin), House)
        self.assertEqual(all_told(twin), all_told(house))
        self.assertEqual(all_told(twin.twin()), all_told(house))
        self.assertEqual(all_told(House().twin()), all_told(House()))

    def ways_to_change(self):
        yield lambda house: house.do(("fold", "q", PLAN))
        yield lambda house: house.do(("drop", "a"))
        yield lambda house: house.do(("mark", "a", 1, "z"))
        yield lambda house: house.do(("paint", "b", 0, "gold"))
        yield lambda house: house.do(("pinch", "b", "odd"))
        yield lambda house: house.do(("unfold", "b"))
        yield lambda house: house.back()
        yield lambda house: house.again()
        yield lambda house: [house.back() for times in range(9)]
        yield lambda house: [house.again() for times in range(5)]
        yield lambda house: [house.back(), house.back(), house.do(("fold", "q", PLAN))]
        yield lambda house: [house.again(), house.do(("drop", "b")), house.back()]

    def test_neither_changes_the_other(self):
        for change in self.ways_to_change():
            house = self.house_with_both()
            twin, told = house.twin(), all_told(house)
            grandtwin = twin.twin()
            change(house)
            self.assertNotEqual(all_told(house), told)
            self.assertEqual((all_told(twin), all_told(grandtwin)), (told, told))
            changed = all_told(house)
            change(grandtwin)
            self.assertEqual((all_told(house), all_told(twin), all_told(grandtwin)), (changed, told, changed))
            change(twin)
            self.assertEqual((all_told(house), all_told(twin)), (changed, changed))

    def test_each_goes_its_own_road(self):
        house = self.house_with_both()
        twin = house.twin()
        other = twin.twin()
        house.back()
        twin.again()
        other.do(("drop", "b"))
        self.assertEqual(house.deeds(), ALL_KINDS[:8])
        self.assertEqual(twin.deeds(), ALL_KINDS[:10])
        self.assertEqual(other.deeds(), ALL_KINDS[:9] + [("drop", "b")])
        self.assertEqual(house.again(), ALL_KINDS[8])
        self.assertEqual(twin.back(), ALL_KINDS[9])
        self.assertRaises(NoForth, other.again)
        self.assertEqual([twin.again() for times in range(5)], ALL_KINDS[9:])

    def test_two_houses(self):
        one, other = House(), House()
        one.do(("fold", "a", PLAN))
        self.assertEqual((len(other), other.names(), other.deeds()), (0, [], []))
        other.do(("fold", "a", star(4)))
        self.assertEqual((one.plan("a"), other.plan("a")), (PLAN, star(4)))


class Told(unittest.TestCase):
    def spoil(self, told):
        self.assertIs(type(told), list)
        if told:
            told[0] = None
            told.pop()
        told.append("more")
        told.reverse()
        told.clear()

    def test_changed_by_the_asker_they_change_nothing(self):
        house = House()
        for deed in ALL_KINDS:
            house.do(deed)
        house.back()
        house.back()
        ahead = all_told(house)
        for times in range(2):
            for told in (house.names(), house.deeds(), house.seen("a"), house.beneath("a"), house.seen("b")):
                self.spoil(told)
            self.assertEqual(all_told(house), ahead)
        self.assertEqual(house.back(), ALL_KINDS[-3])
        self.assertEqual(house.deeds(), ALL_KINDS[:-3])

    def test_told_ahead_of_a_deed_they_stay_behind_it(self):
        house = House()
        house.do(("fold", "a", PLAN))
        house.do(("fold", "b", PLAN))
        lists = (house.names(), house.deeds(), house.seen("a"), house.beneath("a"))
        kept = tuple(list(told) for told in lists)
        for deed in (
            ("mark", "a", 0, "a"), ("paint", "a", 1, "red"), ("pinch", "a", "odd"), ("over", "a"), ("drop", "b"),
            ("fold", "c", PLAN), ("unfold", "a"), ("drop", "a"),
        ):
            house.do(deed)
            self.assertEqual(lists, kept)
        while house.deeds():
            house.back()
            self.assertEqual(lists, kept)

    def test_the_twins_lists_too(self):
        house = House()
        house.do(("fold", "a", PLAN))
        twin = house.twin()
        told = all_told(house)
        for asked in (house, twin):
            self.spoil(asked.names())
            self.spoil(asked.deeds())
            self.spoil(asked.seen("a"))
        self.assertEqual((all_told(house), all_told(twin)), (told, told))

    def test_a_refusals_values_are_texts_alone(self):
        house = House()
        house.do(("fold", "a", PLAN))
        house.do(("unfold", "a"))
        with self.assertRaises(OtherRow) as caught:
            house.do(("refold", "a", star(4)))
        self.assertEqual((type(caught.exception.had), type(caught.exception.wanted)), (str, str))

    def test_no_pinch_changes_nothing_that_was_told(self):
        house = House()
        house.do(("fold", "a", PLAN))
        seen, lie = house.seen("a"), house.lie("a")
        self.assertRaises(NoPinch, house.do, ("pinch", "a", "even"))
        self.assertEqual((house.seen("a"), house.lie("a")), (seen, lie))


if __name__ == "__main__":
    unittest.main()

"""The desk: [24]."""

import unittest

from pinchfold import errors
from pinchfold.desk import Desk
from pinchfold.errors import BadText, PinchError
from pinchfold.house import House
from pinchfold.pages import deed_text, page_text, read_deed, read_page
from pinchfold.roads import road
from pinchfold.strips import folds
from tests.houses import OwnHouse, all_told, deeds_at_will
from tests.model import forty_faced_plans, own_places
from tests.samples import few_faced_plans, star

FEW = few_faced_plans()
FORTY = forty_faced_plans()
PLAN = (5, ((0, 2), (2, 4)))
TWELVE = "abcdefghijkl"
FORTY_TEXT = ",".join(f"{low}-{high}" for low, high in star(40)[1])


def desk_behind(*lines):
    desk = Desk()
    for line in lines:
        answer = desk.say(line)
        assert answer == "done" or line in ("undo", "redo"), (line, answer)
    return desk


def busy_desk():
    """A folded paper that cannot be pinched even, an unfolded one, and a deed that can be done again."""
    return desk_behind(
        "fold folded 5:0-2,2-4", "fold strip 4:0-2", "paint strip 1 gold", "mark folded 0 q", "unfold strip",
        "pinch folded odd", "unpinch folded odd", "about folded", "undo",
    )


class Said(unittest.TestCase):
    def check_same(self, desk, line, answer):
        """Hold an answer that changes nothing against the wanted one."""
        ahead = all_told(desk.house())
        told = desk.say(line)
        self.assertIs(type(told), str)
        self.assertEqual(told, answer, repr(line))
        self.assertEqual(all_told(desk.house()), ahead, repr(line))


class Answers(Said):
    def test_deeds(self):
        desk, house = Desk(), House()
        for line in (
            "fold a 5:0-2,2-4", "fold b 3:", "pinch a odd", "unpinch a odd", "over a", "about a", "paint a 1 red",
            "mark a 2 x", "wash a 1", "unfold a", "refold a 5:0-2,2-4", "drop b", "fold b 40:" + FORTY_TEXT,
        ):
            self.assertEqual(desk.say(line), "done", line)
            house.do(read_deed(line))
            self.assertEqual(all_told(desk.house()), all_told(house))

    def test_undo_and_redo(self):
        lines = [
            "fold a 5:0-2,2-4", "pinch a odd", "paint a 1 gold", "mark a 2 x", "unfold a",
            "refold a 5:0-2,2-4", "drop a",
        ]
        desk = desk_behind(*lines)
        self.assertEqual([desk.say("undo") for line in lines], lines[::-1])
        self.check_same(desk, "undo", "refused noback")
        self.assertEqual([desk.say("redo") for line in lines], lines)
        self.check_same(desk, "redo", "refused noforth")
        self.assertEqual(desk.say("undo"), "drop a")
        self.check_same(desk, "over b", "refused nopaper")
        self.check_same(desk, "names", "a")
        self.check_same(desk, "nonsense", "no line")
        self.assertEqual(desk.say("redo"), "drop a")
        self.assertEqual(desk.say("undo"), "drop a")
        self.assertEqual(desk.say("about a"), "done")
        self.check_same(desk, "redo", "refused noforth")

    def test_names(self):
        desk = Desk()
        self.check_same(desk, "names", "none")
        for name, names in (("m", "m"), ("b", "b m"), ("zz", "b m zz"), ("none", "b m none zz")):
            self.assertEqual(desk.say(f"fold {name} 3:"), "done")
            self.check_same(desk, "names", names)
        for name in ("m", "b", "zz", "none"):
            desk.say(f"drop {name}")
        self.check_same(desk, "names", "none")

    def test_lie_row_plan_and_folds(self):
        desk = desk_behind("fold a 5:0-2,2-4")
        self.check_same(desk, "lie a", "0 1 0")
        self.check_same(desk, "row a", "rrlrr")
        self.check_same(desk, "plan a", "5:0-2,2-4")
        self.check_same(desk, "folds a", "1")
        desk.say("pinch a odd")
        desk.say("about a")
        desk.say("about a")
        self.check_same(desk, "lie a", "2 0 2")
        desk.say("unfold a")
        self.check_same(desk, "row a", "rrlrr")
        self.check_same(desk, "folds a", "1")
        self.check_same(desk, "lie a", "refused unfolded")
        self.check_same(desk, "plan a", "refused unfolded")
        desk.say("fold b 3:")
        self.check_same(desk, "plan b", "3:")
        self.check_same(desk, "row b", "rrr")

    def test_each_plan(self):
        for plan in FEW + FORTY:
            desk, house = Desk(), House()
            house.do(("fold", "a", plan))
            self.assertEqual(desk.say(page_text(house)[:-1]), "done")
            self.check_same(desk, "plan a", page_text(house)[len("fold a "):-1])
            self.check_same(desk, "row a", house.row("a"))
            self.check_same(desk, "folds a", str(folds(house.row("a"))))

    def test_folds_of_any_size(self):
        sizes = []
        for plan in FORTY:
            desk = Desk()
            desk.say(deed_text(("fold", "a", plan)))
            sizes.append(len(desk.say("folds a")))
        self.assertGreater(max(sizes), 4)

    def test_seen_and_beneath_by_hand(self):
        desk = desk_behind("fold a 5:0-2,2-4", "paint a 1 gold", "mark a 1 k", "mark a 4 b")
        self.check_same(
            desk, "seen a",
            "0 fore 0 plain ---, 2 back 1 gold k--, 5 fore 0 plain ---, "
            "7 back 1 plain ---, 10 fore 0 plain b--, 12 back 1 plain ---",
        )
        self.check_same(
            desk, "beneath a",
            "1 fore 1 plain ---, 0 back 0 plain ---, 11 fore 1 plain ---, "
            "10 back 0 plain ---, 6 fore 1 plain ---, 5 back 0 plain ---",
        )
        desk.say("over a")
        self.check_same(
            desk, "beneath a",
            "0 fore 0 plain ---, 2 back 1 gold k--, 5 fore 0 plain ---, "
            "7 back 1 plain ---, 10 fore 0 plain b--, 12 back 1 plain ---",
        )

    def test_seen_and_beneath_by_the_house(self):
        plans = tuple(FEW[:9] + FORTY[3:5])
        desk, book = Desk(), OwnHouse(plans)
        said = 0
        for deed in deeds_at_will(plans, ("a", "b"), 4):
            if said == 120:
                break
            if book.refusal(deed) is not None:
                continue
            book.do(deed)
            said += 1
            self.assertEqual(desk.say(deed_text(deed)), "done")
            for name, paper in book.papers.items():
                if paper.plan is None:
                    self.assertEqual(desk.say("seen " + name), "refused unfolded")
                    self.assertEqual(desk.say("beneath " + name), "refused unfolded")
                    continue
                self.assertEqual(desk.say("seen " + name), self.pieces(paper.sight(paper.place)))
                self.assertEqual(desk.say("beneath " + name), self.pieces(paper.sight(paper.place[::-1])))
        self.assertEqual(all_told(desk.house()), book.told())

    def pieces(self, sight):
        return ", ".join(f"{told[0]} {told[1]} {told[2]} {told[3] or 'plain'} {told[4]}" for told in sight)

    def test_roads(self):
        desk = desk_behind("fold a 5:0-2,2-4")
        self.check_same(desk, "road a 0 1", "none")
        self.check_same(desk, "road a 1 0", "over")
        self.check_same(desk, "road a 0 2", "pinch odd, over")
        self.check_same(desk, "road a 2 0", "pinch odd")
        self.check_same(desk, "road a 4 2", "pinch odd, pinch even")
        desk.say("pinch a odd")
        self.check_same(desk, "road a 2 0", "none")
        self.check_same(desk, "road a 0 1", "unpinch odd")
        for pair in ("0 0", "0 3", "1 4", "5 0", "0 5", "9999 0", "1 1", "3 3", "0 9999"):
            self.check_same(desk, "road a " + pair, "refused badplace")

    def test_each_road(self):
        for plan in FEW[3:22:3] + FORTY[5:6]:
            desk = desk_behind(deed_text(("fold", "a", plan)), "pinch a odd", "about a")
            stand = desk.house().lie("a")[:2]
            for place in own_places(plan):
                steps = road(plan, stand, place)
                wanted = ", ".join(" ".join(step) for step in steps) or "none"
                self.assertEqual(desk.say(f"road a {place[0]} {place[1]}"), wanted)


class Refusals(Said):
    def test_by_hand(self):
        desk = busy_desk()
        for line, name in (
            ("fold folded 3:", "taken"), ("fold folded 3:0-2", "taken"), ("fold new 3:0-2", "badplan"),
            ("fold new 41:", "badplan"), ("fold new 9999:1-1", "badplan"), ("drop new", "nopaper"),
            ("pinch new even", "nopaper"), ("pinch strip even", "unfolded"), ("pinch folded even", "nopinch"),
            ("unpinch folded even", "nopinch"), ("over new", "nopaper"), ("over strip", "unfolded"),
            ("about new", "nopaper"), ("about strip", "unfolded"), ("paint new 9 red", "nopaper"),
            ("paint strip 9 red", "unfolded"), ("paint folded 6 red", "badslot"), ("mark folded 9999 a", "badslot"),
            ("mark new 0 a", "nopaper"), ("mark strip 0 a", "unfolded"), ("wash folded 7", "badslot"),
            ("wash strip 0", "unfolded"), ("wash new 0", "nopaper"), ("unfold strip", "unfolded"),
            ("unfold new", "nopaper"), ("refold folded 3:", "folded"), ("refold folded 3:0-2", "folded"),
            ("refold strip 3:0-2", "badplan"), ("refold strip 3:", "otherrow"), ("refold new 3:", "nopaper"),
            ("lie new", "nopaper"), ("row new", "nopaper"), ("plan new", "nopaper"), ("seen new", "nopaper"),
            ("beneath new", "nopaper"), ("folds new", "nopaper"), ("road new 0 1", "nopaper"),
            ("road new 9 9", "nopaper"),
            ("lie strip", "unfolded"), ("plan strip", "unfolded"), ("seen strip", "unfolded"),
            ("beneath strip", "unfolded"), ("road strip 0 1", "unfolded"), ("road strip 9 9", "unfolded"),
            ("road folded 9 9", "badplace"), ("road folded 0 0", "badplace"),
        ):
            self.check_same(desk, line, "refused " + name)
        self.assertEqual(desk.say("redo"), "about folded")

    def test_full(self):
        desk = desk_behind(*[f"fold {name} 3:" for name in TWELVE])
        self.check_same(desk, "fold m 3:", "refused full")
        self.check_same(desk, "fold m 4:", "refused badplan")
        self.check_same(desk, "fold a 3:", "refused taken")
        self.assertEqual(desk.say("unfold a"), "done")
        self.check_same(desk, "fold m 3:", "refused full")
        self.assertEqual(desk.say("drop a"), "done")
        self.assertEqual(desk.say("fold m 3:"), "done")

    def test_empty(self):
        desk = Desk()
        self.check_same(desk, "undo", "refused noback")
        self.check_same(desk, "redo", "refused noforth")
        self.check_same(desk, "row a", "refused nopaper")
        self.check_same(desk, "names", "none")

    def test_by_the_house(self):
        """What a house refuses of a deed that can be read is answered by the class's own name."""
        plans = FEW[:9] + [(3, ((0, 2),)), (41, ())]
        desk, met = Desk(), {}
        deeds = deeds_at_will(plans, ("a", "b", "c", "d"), 9)
        for count in range(1500):
            deed = next(deeds)
            line = deed_text(deed)
            try:
                desk.house().do(read_deed(line))
                wanted = "done"
            except BadText:
                wanted = "no line"
            except PinchError as refusal:
                wanted = "refused " + type(refusal).__name__.lower()
                met[type(refusal).__name__] = True
            self.assertEqual(desk.say(line), wanted, line)
        self.assertEqual(sorted(met), [
            "BadPlan", "BadSlot", "Folded", "NoPaper", "NoPinch", "OtherRow", "Taken", "Unfolded",
        ])


class NoLine(Said):
    def test_nearly_of_a_kind(self):
        desk = busy_desk()
        for line in (
            "", " ", "undo ", " undo", "Undo", "UNDO", "undo undo", "undo folded", "undo 1", "redo ", " redo", "Redo",
            "redo redo", "redo 2", "re do", "names ", " names", "Names", "names folded", "name", "names names", "lie",
            "lie ",
            "lie  folded", "lie folded ", " lie folded", "Lie folded", "lie Folded", "lie folded strip", "lie a1",
            "lie abcdefghi", "lies folded", "lie-folded", "liefolded", "row", "row ", "row folded ", "row FOLDED",
            "Row folded",
            "row folded 1", "rows folded", "plan", "plan ", "plan folded ", "plan 3:", "plan folded 3:", "Plan folded",
            "seen",
            "seen ", "seen folded ", "seen folded 0", "Seen folded", "see folded", "beneath", "beneath ",
            "beneath folded ",
            "beneath folded 0", "Beneath folded", "road", "road ", "road folded", "road folded 0", "road folded 0 1 2",
            "road folded 0 1 ", "road  folded 0 1", "road folded  0 1", "road folded 0  1", "road folded 00 1",
            "road folded 0 01",
            "road folded -1 0", "road folded 0 -1", "road folded 12345 0", "road folded 0 10000", "road folded a b",
            "road 0 1", "road 0 1 folded", "road 0 folded 1", "road Folded 0 1", "Road folded 0 1",
            "road folded (0, 1)",
            "road folded 0,1", "road folded +0 1", "folds", "folds ", "folds folded ", "folds folded x", "Folds folded",
            "fold", "fold new", "fold new 3", "fold new 3: ", "fold New 3:", "fold new 03:", "fold new 3:0-2,", "drop",
            "drop folded ", "drop Folded", "pinch folded", "pinch folded Odd", "pinch folded odd ", "pinch  folded odd",
            "paint folded 1 green", "paint folded 01 red", "paint folded 1", "paint folded 12345 red",
            "paint folded -1 red",
            "paint folded 0 plain", "mark folded 1 A", "mark folded 1 ab", "mark folded 1", "mark folded 1 -",
            "wash folded",
            "wash folded 0 0", "over", "over folded over", "about", "about folded 1", "unfold", "unfold folded ",
            "refold strip",
            "refold strip 4", "leaf folded 0 fore", "folded folded", "deeds", "twin", "back", "again", "len", "done",
            "none",
            "no line", "refused nopaper", "help", "undo\n", "\nundo", "names\n", "\n", "lie folded\n", "over folded\n",
            "over folded\nover folded", "names\nnames", "unpinch", "~", "{}", "seen,folded", "over.folded",
        ):
            self.check_same(desk, line, "no line")
        self.assertEqual(desk.say("redo"), "about folded")

    def test_names_that_are_words(self):
        desk = desk_behind("fold names 3:", "fold undo 3:", "fold none 3:", "over undo")
        self.check_same(desk, "names", "names none undo")
        self.check_same(desk, "lie undo", "1 0 0")
        self.check_same(desk, "lie names", "0 1 0")
        self.assertEqual(desk.say("undo"), "over undo")


class Houses(Said):
    def test_house_is_a_twin(self):
        desk = busy_desk()
        house = desk.house()
        self.assertIs(type(house), House)
        ahead = all_told(house)
        house.do(("drop", "folded"))
        house.back()
        house.back()
        house.do(("fold", "new", (3, ())))
        self.assertEqual(all_told(desk.house()), ahead)
        self.check_same(desk, "names", "folded strip")
        other = desk.house()
        other.again()
        self.assertRaises(errors.NoForth, other.again)
        self.assertEqual(all_told(desk.house()), ahead)
        self.assertEqual(desk.say("redo"), "about folded")
        self.assertEqual(house.names(), ["folded", "new", "strip"])

    def test_a_house_that_was_told_stays(self):
        desk = busy_desk()
        house = desk.house()
        ahead = all_told(house)
        for line in ("undo", "undo", "fold new 3:", "drop folded"):
            desk.say(line)
        self.assertEqual(all_told(house), ahead)

    def test_two_desks(self):
        one, other = Desk(), Desk()
        one.say("fold a 3:")
        self.assertEqual((one.say("names"), other.say("names")), ("a", "none"))
        other.say("fold a 5:0-2,2-4")
        self.assertEqual((one.say("plan a"), other.say("plan a")), ("3:", "5:0-2,2-4"))
        self.assertEqual(one.say("undo"), "fold a 3:")
        self.assertEqual((one.say("names"), other.say("names")), ("none", "a"))

    def test_a_page_of_the_desk(self):
        desk = busy_desk()
        house = read_page(page_text(desk.house()))
        self.assertEqual(house.deeds(), desk.house().deeds())
        self.assertEqual(house.seen("folded"), desk.house().seen("folded"))

    def test_a_new_desk_is_empty(self):
        self.assertEqual(all_told(Desk().house()), all_told(House()))


if __name__ == "__main__":
    unittest.main()

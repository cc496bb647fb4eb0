"""Deeds, plans and pages as texts: [22], [23]."""

import unittest
from itertools import permutations

from pinchfold.errors import BadText, NoBack, NoForth
from pinchfold.house import House
from pinchfold.pages import deed_text, page_text, plan_text, read_deed, read_page
from tests.houses import COLOURS, LETTERS, OwnHouse, all_told, deeds_at_will
from tests.model import forty_faced_plans
from tests.samples import few_faced_plans, star, zigzag

FEW = few_faced_plans()
FORTY = forty_faced_plans()
PLAN = (5, ((0, 2), (2, 4)))

# Each kind of deed, and how it is written.
WRITTEN = {
    ("fold", "a", (3, ())): "fold a 3:",
    ("fold", "abcdefgh", PLAN): "fold abcdefgh 5:0-2,2-4",
    ("drop", "z"): "drop z",
    ("pinch", "a", "even"): "pinch a even",
    ("pinch", "even", "odd"): "pinch even odd",
    ("unpinch", "a", "even"): "unpinch a even",
    ("unpinch", "bb", "odd"): "unpinch bb odd",
    ("over", "over"): "over over",
    ("about", "q"): "about q",
    ("paint", "a", 0, "red"): "paint a 0 red",
    ("paint", "a", 5, "blue"): "paint a 5 blue",
    ("paint", "red", 9999, "gold"): "paint red 9999 gold",
    ("mark", "a", 3, "a"): "mark a 3 a",
    ("mark", "a", 10, "z"): "mark a 10 z",
    ("mark", "a", 100, "m"): "mark a 100 m",
    ("wash", "a", 6): "wash a 6",
    ("wash", "a", 1000): "wash a 1000",
    ("unfold", "a"): "unfold a",
    ("refold", "a", (4, ((0, 2),))): "refold a 4:0-2",
    ("refold", "none", (0, ())): "refold none 0:",
    ("fold", "a", (9999, ((9999, 0), (0, 0), (12, 345)))): "fold a 9999:9999-0,0-0,12-345",
}

NO_DEEDS = """
fold|fold a|fold a 3|fold a :|fold a 3: |fold a 3:0|fold a 3:0-|fold a 3:-2|fold a 3:0-2,|fold a 3:,0-2
fold a 3:,|fold a 5:0-2,,2-4|fold a 5:0-2 2-4|fold a 5:0-2, 2-4|fold a 5: 0-2|fold a 5 :0-2|fold a 5:0--2
fold a 5:0-2-4|fold a 5:0-2;2-4|fold a 5;0-2|fold a 5::0-2|fold a 5:0-2:|fold a 5:0:2|fold a 5:02|fold a 5:0-02
fold a 5:00-2|fold a 05:0-2|fold a 00:|fold a 12345:|fold a -3:|fold a +3:|fold a 3:0-12345|fold a 3:12345-0
fold a 00003:|fold a 3.:|fold a three:|fold a x:|fold a 3:a-b|fold a (3,())|fold a 3:3:|fold  a 3:| fold a 3:
fold a  3:|fold A 3:|fold a1 3:|fold abcdefghi 3:|fold  3:|fold 3: a|Fold a 3:|FOLD a 3:|fold a 3: 3:
fold a b 3:|fold a,3:|fold-a-3:|fold_a_3:|fold a 3:0_2|fold a 3:0-1_0|a fold 3:|fold fold a 3:|fold a 3:.
fold a 5:0-2,2-4.|fold a 5:0-2,2- 4|drop|drop |drop a |drop  a| drop a|drop a a|drop a b|drop A|drop abcdefghi
drop a1|drop 1|a drop|dropa|drop-a|Drop a|DROP a|drop a.|drop drop a|pinch|pinch a|pinch a even |pinch a Even
pinch a EVEN|pinch even|pinch a left|pinch a even odd|pinch a even even|pinch  a even|pinch a  even|pinch even a
a pinch even|even a pinch|pinch a eve|pinch a evenn|pinch a odd1|pinch A odd|pinch a, odd|pinch a odd,|pinch a 0
pinch odd odd odd|unpinch|unpinch a|unpinch a ODD|unpinch a odd |unpinch  a odd|unpinch odd|unpinch a over
un pinch a odd|un-pinch a odd|Unpinch a odd|over|over |over a |over  a|over a b|over A|over 1|Over a|over a over
over a odd|about|about |about a |about a a|about A|about a 1|About a|paint|paint a|paint a 0|paint a red
paint a red 0|paint 0 a red|paint a 0 Red|paint a 0 green|paint a 0 plain|paint a 0 none
""".strip()


def no_deeds():
    found = [text for line in NO_DEEDS.split("\n") for text in line.split("|")]
    slots = (
        "00", "01", "007", "-1", "+1", "12345", "10000", "00000", "1.0", "1 ", " 1", "", "a", "0x1", "1_0", "1e3",
        "one",
    )
    for slot in slots:
        found += [f"paint a {slot} red", f"mark a {slot} b", f"wash a {slot}"]
    for colour in ("", "Red", "RED", "red ", "green", "plain", "none", "redd", "re", "red red", "red,", "1", "a"):
        found += [f"paint a 0 {colour}"]
    for letter in ("", "A", "ab", "-", "1", "a ", " a", "aa", "a b", "{", "`", "~", "a,"):
        found += [f"mark a 0 {letter}"]
    found += ["mark", "mark a", "mark a 0", "mark a b", "mark a b 0", "mark 0 a b", "mark a 0 b c", "Mark a 0 b"]
    found += ["wash", "wash a", "wash 0", "wash 0 a", "wash a 0 0", "wash a 0 red", "wash a 0 ", "Wash a 0"]
    found += ["unfold", "unfold a ", "unfold a a", "unfold A", "unfold a 3:", "un fold a", "Unfold a"]
    found += ["refold", "refold a", "refold a 3", "refold a 3: ", "refold a :", "refold A 3:", "refold 3:"]
    found += ["refold a 3: x", "", " ", "  ", "\n", "a", "3:", "even", "undo", "redo", "names", "lie a", "seen a"]
    found += ["done", "none", "turn a"]
    return found


class Texts(unittest.TestCase):
    def test_by_hand(self):
        for deed, text in WRITTEN.items():
            self.assertEqual(deed_text(deed), text)
            self.assertEqual(read_deed(text), deed)

    def test_kinds_of_what_is_read(self):
        def kinds(thing):
            return tuple(kinds(inner) for inner in thing) if type(thing) is tuple else type(thing)

        for deed, text in WRITTEN.items():
            self.assertIs(type(read_deed(text)), tuple)
            self.assertEqual(kinds(read_deed(text)), kinds(deed))

    def test_all_letters_names_slots_and_colours(self):
        deeds = [("mark", "a", slot, letter) for slot in range(6) for letter in LETTERS]
        deeds += [("paint", letter, slot, colour) for slot in range(6) for letter in LETTERS for colour in COLOURS]
        deeds += [("drop", LETTERS[at:at + 1 + at % 8]) for at in range(26)]
        deeds += [("wash", "a", slot) for slot in list(range(0, 10000, 37)) + [9, 10, 99, 100, 999, 1000, 9999]]
        for deed in deeds:
            text = " ".join(str(thing) for thing in deed)
            self.assertEqual(deed_text(deed), text)
            self.assertEqual(read_deed(text), deed)

    def test_all_plans_of_few_faces_and_some_of_forty(self):
        for plan in FEW + FORTY:
            text = str(plan[0]) + ":" + ",".join(str(low) + "-" + str(high) for low, high in plan[1])
            self.assertEqual(plan_text(plan), text)
            for word in ("fold", "refold"):
                self.assertEqual(deed_text((word, "a", plan)), word + " a " + text)
                self.assertEqual(read_deed(word + " a " + text), (word, "a", plan))

    def test_plan_texts(self):
        self.assertEqual(plan_text((3, ())), "3:")
        self.assertEqual(plan_text((5, ((0, 2), (0, 3)))), "5:0-2,0-3")
        self.assertTrue(plan_text(star(40)).startswith("40:0-2,0-3,0-4,"))
        self.assertTrue(plan_text(star(40)).endswith(",0-37,0-38"))

    def test_plans_by_their_form_alone(self):
        for plan, text in (
            ((0, ()), "0:"), ((2, ()), "2:"), ((41, ()), "41:"), ((9999, ()), "9999:"), ((3, ((0, 2),)), "3:0-2"),
            ((4, ((2, 0),)), "4:2-0"), ((4, ((2, 2), (2, 2))), "4:2-2,2-2"), ((5, ((2, 4), (0, 2))), "5:2-4,0-2"),
            ((1, ((100, 1000), (9999, 10))), "1:100-1000,9999-10"), ((4, ((0, 2), (1, 3))), "4:0-2,1-3"),
        ):
            self.assertEqual(plan_text(plan), text)
            self.assertEqual(read_deed("refold b " + text), ("refold", "b", plan))
            self.assertEqual(read_deed("fold b " + text), ("fold", "b", plan))

    def check_bad(self, text):
        with self.assertRaises(BadText, msg=repr(text)) as caught:
            read_deed(text)
        self.assertEqual(caught.exception.at, 0)

    def test_texts_of_no_deed(self):
        for text in no_deeds():
            self.check_bad(text)

    def test_line_feeds(self):
        for text in WRITTEN.values():
            for bad in (text + "\n", "\n" + text, text.replace(" ", "\n"), text + "\n" + text):
                self.check_bad(bad)
            for at in range(1, len(text)):
                self.check_bad(text[:at] + "\n" + text[at:])

    def test_blanks_too_many(self):
        for text in WRITTEN.values():
            self.check_bad(" " + text)
            self.check_bad(text + " ")
            self.check_bad(text.replace(" ", "  "))
            for at in range(len(text)):
                if text[at] == " ":
                    self.check_bad(text[:at] + text[at + 1:])
                    self.check_bad(text[:at] + "  " + text[at + 1:])
                    for sign in "-_,.:;/+~":
                        self.check_bad(text[:at] + sign + text[at + 1:])

    def test_words_left_out_doubled_or_exchanged(self):
        for text in WRITTEN.values():
            words = text.split(" ")
            for at in range(len(words)):
                self.check_bad(" ".join(words[:at] + words[at + 1:]))
                self.check_bad(" ".join(words[:at] + [words[at], words[at]] + words[at + 1:]))
        # The name is no way, colour or letter here: so no two words can be exchanged.
        for text in (
            "fold paper 5:0-2,2-4", "drop paper", "pinch paper even", "unpinch paper odd", "over paper", "about paper",
            "paint paper 0 red", "mark paper 3 k", "wash paper 5", "unfold paper", "refold paper 3:",
        ):
            words = text.split(" ")
            self.assertEqual(read_deed(text)[:2], (words[0], "paper"))
            for exchanged in permutations(words):
                if list(exchanged) != words:
                    self.check_bad(" ".join(exchanged))

    def test_signs_put_between(self):
        for text in ("fold ab 5:0-2,2-4", "paint ab 12 red", "pinch ab even", "mark ab 3 c", "over ab"):
            for at in range(len(text) + 1):
                for sign in "!\"#$&'()*+./;<=>?@[\\]^_`{|}~AZ":
                    self.check_bad(text[:at] + sign + text[at:])


class Pages(unittest.TestCase):
    def written_house(self, seed=3, count=60):
        plans = tuple(FEW[:9] + FORTY[3:5])
        house, book = House(), OwnHouse(plans)
        for deed in deeds_at_will(plans, ("a", "bb", "abcdefgh"), seed):
            if len(house.deeds()) == count:
                return house
            if book.refusal(deed) is None:
                house.do(deed)
                book.do(deed)

    def own_page(self, deeds):
        def word(thing):
            if type(thing) is tuple:
                return f"{thing[0]}:" + ",".join(f"{low}-{high}" for low, high in thing[1])
            return str(thing)

        return "".join(" ".join(word(thing) for thing in deed) + "\n" for deed in deeds)

    def test_the_empty_page(self):
        self.assertEqual(page_text(House()), "")
        self.assertEqual(page_text(House(), 5), "")
        house = read_page("")
        self.assertIs(type(house), House)
        self.assertEqual(all_told(house), all_told(House()))

    def test_by_hand(self):
        house = House()
        for deed in (("fold", "a", PLAN), ("pinch", "a", "odd"), ("mark", "a", 3, "k"), ("over", "a")):
            house.do(deed)
        page = "fold a 5:0-2,2-4\npinch a odd\nmark a 3 k\nover a\n"
        self.assertEqual(page_text(house), page)
        self.assertEqual(page_text(house, 0), page)
        self.assertEqual(page_text(house, 2), "mark a 3 k\nover a\n")
        self.assertEqual(page_text(house, skip=3), "over a\n")
        self.assertEqual(page_text(house, 4), "")
        self.assertEqual(page_text(house, 5), "")
        self.assertEqual(page_text(house, 10 ** 39), "")
        house.back()
        self.assertEqual(page_text(house), "fold a 5:0-2,2-4\npinch a odd\nmark a 3 k\n")
        house.again()
        self.assertEqual(page_text(house), page)

    def test_of_a_house_with_many_deeds(self):
        for seed in range(4):
            house = self.written_house(seed)
            for times in range(3):
                deeds = house.deeds()
                for skip in (0, 1, 2, len(deeds) - 1, len(deeds), len(deeds) + 1):
                    self.assertEqual(page_text(house, skip), self.own_page(deeds[skip:]))
                for back in range(7):
                    house.back()

    def test_writing_changes_nothing(self):
        house = self.written_house()
        house.back()
        ahead = all_told(house)
        page_text(house)
        page_text(house, 3)
        self.assertEqual(all_told(house), ahead)

    def test_read_to_a_house_with_the_same(self):
        for seed in range(4):
            house = self.written_house(seed)
            for times in range(2):
                house.back()
            read = read_page(page_text(house))
            told, wanted = all_told(read), all_told(house)
            self.assertEqual(told[:3] + told[4:], wanted[:3] + wanted[4:])
            self.assertEqual(told[3], [])
            self.assertRaises(NoForth, read.again)
            for deed in house.deeds()[::-1]:
                self.assertEqual(read.back(), deed)
            self.assertRaises(NoBack, read.back)
            self.assertEqual(len(read), 0)
            self.assertEqual(len(house.deeds()), 58)

    def check_bad(self, text, at):
        with self.assertRaises(BadText, msg=repr(text)) as caught:
            read_page(text)
        self.assertEqual(caught.exception.at, at, repr(text))

    def test_a_line_that_writes_no_deed(self):
        lines = ["fold a 5:0-2,2-4", "pinch a odd", "mark a 3 k", "over a"]
        for at in range(4):
            for bad in ("", " ", "pinch a", "over a ", " over a", "Over a", "fold b 3", "undo", "names", "mark a 03 k"):
                page = "\n".join(lines[:at] + [bad] + lines[at:]) + "\n"
                self.check_bad(page, at)
        for bad in no_deeds():
            if "\n" not in bad:
                self.check_bad("fold a 3:\n" + bad + "\n", 1)
                self.check_bad("fold a 3:\n" + bad + "\nno deed\n", 1)

    def test_a_line_whose_deed_is_refused(self):
        lines = ["fold a 5:0-2,2-4", "fold b 4:0-2", "unfold b", "pinch a odd"]
        for bad in (
            "fold a 3:", "fold c 3:0-2", "fold c 41:", "drop c", "over c", "over b", "about b", "mark b 0 a",
            "wash b 0",
            "paint a 6 red", "mark a 9999 a", "wash a 10", "unfold b", "refold a 5:0-2,2-4", "refold b 3:",
            "refold b 4:0-1",
            "pinch c odd", "pinch b odd", "refold c 3:",
        ):
            self.check_bad("\n".join(lines + [bad]) + "\n", 4)
            self.check_bad("\n".join(lines + [bad, "over a"]) + "\n", 4)
            self.check_bad("\n".join(lines + ["over a", "over a", bad, bad, ""]) + "\n", 6)
        self.check_bad("fold a 3:\npinch a even\n", 1)
        self.check_bad("over a\n", 0)
        twelve = "".join(f"fold {name} 3:\n" for name in "abcdefghijkl")
        self.assertEqual(len(read_page(twelve)), 12)
        self.check_bad(twelve + "fold m 3:\n", 12)

    def test_a_last_line_without_its_line_feed(self):
        self.check_bad("fold a 3:", 0)
        self.check_bad("x", 0)
        self.check_bad(" ", 0)
        self.check_bad("fold a 3:\nover a", 1)
        self.check_bad("fold a 3:\nover a\n ", 2)
        self.check_bad("fold a 3:\nover a\nno deed", 2)
        self.check_bad("fold a 3:\nover b\nover a", 1)
        self.check_bad("fold a 3:\nno deed\nover a", 1)
        self.check_bad("fold a 3\nover a", 0)

    def test_empty_lines(self):
        self.check_bad("\n", 0)
        self.check_bad("\n\n", 0)
        self.check_bad("fold a 3:\n\n", 1)
        self.check_bad("\nfold a 3:\n", 0)
        self.check_bad("fold a 3:\n\nover a\n", 1)

    def test_houses_that_are_read_are_on_their_own(self):
        page = "fold a 3:\nmark a 0 x\n"
        one, other = read_page(page), read_page(page)
        one.do(("drop", "a"))
        self.assertEqual((one.names(), other.names()), ([], ["a"]))
        self.assertEqual(page_text(other), page)

    def test_forty_faces(self):
        for plan in FORTY + [zigzag(39)]:
            house = House()
            house.do(("fold", "a", plan))
            house.do(("unfold", "a"))
            house.do(("refold", "a", plan))
            told = all_told(read_page(page_text(house)))
            self.assertEqual(told, all_told(house))


if __name__ == "__main__":
    unittest.main()

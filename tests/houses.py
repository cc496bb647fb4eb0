"""The tests' own book of a house, kept without the program's help, and all that a house tells."""

from copy import deepcopy

from pinchfold.errors import NoForth
from tests.model import PINCHES, WAYS, own_heaps, own_middles, own_row, own_step

COLOURS = ("red", "blue", "gold")
SIDES = ("fore", "back")
LETTERS = "abcdefghijklmnopqrstuvwxyz"
COUNTS = {
    "fold": 3, "drop": 2, "pinch": 3, "unpinch": 3, "over": 2, "about": 2, "paint": 4, "mark": 4, "wash": 3,
    "unfold": 2, "refold": 3,
}
NO_NAMES = (
    "", "A", "aB", "a1", "1", "a b", " a", "a ", " ", "abcdefghi", "abcdefghijkl", "a-b", "a_b", "-", "_", "\n", "a\n",
    "{", "`", "~", "@", "a.", ":", "Abcdefgh",
)
NO_COLOURS = (
    "", "Red", "RED", "red ", " red", "green", "plain", "none", "r", "redblue", "red\n", "re", "old", "-", "a",
)
NO_LETTERS = ("", "A", "Z", "ab", "abc", "-", "1", " ", "a ", "\n", "{", "`", "~", "aa", "yz", "za", "---")
NO_SLOTS = (-1, 6, 7, -6, 10, 100, 10 ** 39, -10 ** 39)
NO_SIDES = ("", "Fore", "FORE", "fore ", " back", "backs", "front", "even", "odd", "f", "ore", "foreback", "top", "\n")


class OwnPaper:
    """A paper by the words of the document: colours by copy and side, letters by copy, side and corner."""

    def __init__(self, plan):
        self.row = own_row(plan)
        self.colours = {}
        self.letters = {}
        self.fold(plan)

    def fold(self, plan):
        self.plan = plan
        self.place = (0, 1)
        self.front = 0

    def tops(self, place):
        """The copies, sides and middle corners of the leaves on top, by slots."""
        corners = own_middles(self.plan, place)
        heaps = own_heaps(self.plan, place + (self.front,))
        return [(heap[0], SIDES[slot % 2], corners[slot % 2]) for slot, heap in enumerate(heaps)]

    def sight(self, place):
        seen = []
        for copy, side, corner in self.tops(place):
            around = {0: (0, 1, 2), 1: (1, 2, 0), 2: (2, 0, 1)}[corner]
            if side == "back":
                around = {0: (0, 2, 1), 1: (1, 0, 2), 2: (2, 1, 0)}[corner]
            letters = "".join(self.letters.get((copy, side, at), "-") for at in around)
            seen.append((copy, side, corner, self.colours.get((copy, side), ""), letters))
        return seen

    def leaf(self, copy, side):
        letters = "".join(self.letters.get((copy, side, corner), "-") for corner in range(3))
        return (self.colours.get((copy, side), ""), letters)

    def told(self):
        leaves = [self.leaf(copy, side) for copy in range(3 * len(self.row)) for side in SIDES]
        if self.plan is None:
            return (False, self.row, leaves)
        top, under = self.place
        sights = (self.sight((top, under)), self.sight((under, top)))
        return (True, self.row, leaves, self.plan, (top, under, self.front)) + sights


class OwnHouse:
    """A house that is told which tuples are plans; each of its states is kept whole."""

    def __init__(self, plans):
        self.plans = set(plans)
        self.papers = {}
        self.deeds = []
        self.past = []
        self.future = []

    def refusal(self, deed):
        """The name of the refusal that goes first, or None."""
        if not deed or deed[0] not in COUNTS or len(deed) != COUNTS[deed[0]]:
            return "BadDeed"
        word, name = deed[:2]
        if word == "fold":
            return self.fold_refusal(name, deed[2])
        if name not in self.papers:
            return "NoPaper"
        if word == "drop":
            return None
        paper = self.papers[name]
        if word == "refold":
            return self.refold_refusal(paper, deed[2])
        if paper.plan is None:
            return "Unfolded"
        if word in ("pinch", "unpinch"):
            return self.pinch_refusal(paper, word, deed[2])
        return self.slot_refusal(deed)

    def fold_refusal(self, name, plan):
        if not 1 <= len(name) <= 8 or any(sign not in LETTERS for sign in name):
            return "BadName"
        if name in self.papers:
            return "Taken"
        if plan not in self.plans:
            return "BadPlan"
        return "Full" if len(self.papers) == 12 else None

    def refold_refusal(self, paper, plan):
        if paper.plan is not None:
            return "Folded"
        if plan not in self.plans:
            return "BadPlan"
        return "OtherRow" if own_row(plan) != paper.row else None

    def pinch_refusal(self, paper, word, way):
        if way not in WAYS:
            return "BadWay"
        return "NoPinch" if own_step(paper.plan, paper.place, (word, way)) is None else None

    def slot_refusal(self, deed):
        word = deed[0]
        if word in ("paint", "mark", "wash") and deed[2] not in (0, 1, 2, 3, 4, 5):
            return "BadSlot"
        if word == "paint" and deed[3] not in COLOURS:
            return "BadColour"
        if word == "mark" and deed[3] not in list(LETTERS):
            return "BadLetter"
        return None

    def do(self, deed):
        """Do a deed that is not refused."""
        self.past.append((deepcopy(self.papers), list(self.deeds)))
        self.future = []
        self.deeds.append(deed)
        word, name = deed[:2]
        if word == "fold":
            self.papers[name] = OwnPaper(deed[2])
        elif word == "drop":
            del self.papers[name]
        else:
            self.change(self.papers[name], deed)

    def change(self, paper, deed):
        word = deed[0]
        if deed[:1] + deed[2:] in PINCHES or word == "over":
            paper.place = own_step(paper.plan, paper.place, deed[:1] + deed[2:])
        elif word == "about":
            paper.front = {0: 1, 1: 2, 2: 0}[paper.front]
        elif word == "unfold":
            paper.plan = None
        elif word == "refold":
            paper.fold(deed[2])
        else:
            self.write(paper, deed)

    def write(self, paper, deed):
        word = deed[0]
        copy, side, corner = paper.tops(paper.place)[deed[2]]
        if word == "paint":
            paper.colours[(copy, side)] = deed[3]
        elif word == "mark":
            paper.letters[(copy, side, corner)] = deed[3]
        else:
            paper.colours.pop((copy, side), None)
            for at in range(3):
                paper.letters.pop((copy, side, at), None)

    def back(self):
        self.future.append((self.papers, self.deeds))
        self.papers, self.deeds = self.past.pop()
        return self.future[-1][1][-1]

    def again(self):
        self.past.append((self.papers, self.deeds))
        self.papers, self.deeds = self.future.pop()
        return self.deeds[-1]

    def told(self):
        ahead = [deeds[-1] for papers, deeds in self.future[::-1]]
        papers = {name: self.papers[name].told() for name in sorted(self.papers)}
        return (len(self.papers), sorted(self.papers), list(self.deeds), ahead, papers)


def all_told(house):
    """All that a house tells, with what can be done again: to be held against another house or the book."""
    papers = {name: paper_told(house, name) for name in house.names()}
    return (len(house), house.names(), house.deeds(), what_is_ahead(house), papers)


def paper_told(house, name):
    row = house.row(name)
    leaves = [house.leaf(name, copy, side) for copy in range(3 * len(row)) for side in SIDES]
    if not house.folded(name):
        return (False, row, leaves)
    return (True, row, leaves, house.plan(name), house.lie(name), house.seen(name), house.beneath(name))


def what_is_ahead(house):
    """The deeds that can be done again, the next one first."""
    twin, ahead = house.twin(), []
    while True:
        try:
            ahead.append(twin.again())
        except NoForth:
            return ahead


def numbers_from(seed):
    """Numbers without a pattern that are the same at each run."""
    while True:
        seed = (seed * 1103515245 + 12345) % 2 ** 31
        yield seed >> 8


def deeds_at_will(plans, names, seed):
    """Deeds of all kinds without a pattern, good and bad ones, most of them on papers that are folded."""
    numbers = numbers_from(seed)

    def pick(things):
        return things[next(numbers) % len(things)]

    while True:
        word = pick(("pinch",) * 5 + ("unpinch",) * 4 + ("paint", "mark", "refold") * 4 + tuple(COUNTS))
        name = pick(names)
        slot = pick((0, 1, 2, 3, 4, 5, 0, 1, 2, 3, 4, 5, 6, -1))
        things = {
            "fold": (pick(plans),), "refold": (pick(plans),), "wash": (slot,),
            "pinch": (pick(WAYS + WAYS + ("Even",)),), "unpinch": (pick(WAYS + WAYS + ("",)),),
            "paint": (slot, pick(COLOURS * 3 + NO_COLOURS[:2])), "mark": (slot, pick(tuple(LETTERS) + NO_LETTERS[:2])),
        }
        yield (word, name) + things.get(word, ())

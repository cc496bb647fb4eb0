"""The house: papers by their names, the deeds done to them, taken back and done again."""

from pinchfold.errors import BadDeed, BadName, Full, NoBack, NoForth, NoPaper, Taken
from pinchfold.papers import LETTERS, changed, check_folded, leaf_told, new_paper, seen_beneath, seen_on_top

MOST_PAPERS = 12
LONGEST_NAME = 8

# What stands behind the first text of each deed.
THINGS = {
    "fold": ("name", "plan"),
    "drop": ("name",),
    "pinch": ("name", "way"),
    "unpinch": ("name", "way"),
    "over": ("name",),
    "about": ("name",),
    "paint": ("name", "slot", "colour"),
    "mark": ("name", "slot", "letter"),
    "wash": ("name", "slot"),
    "unfold": ("name",),
    "refold": ("name", "plan"),
}


def is_name(text):
    """Tell whether a text is a name: 1 to 8 letters a to z."""
    if len(text) < 1 or len(text) > LONGEST_NAME:
        return False
    return all([letter in LETTERS for letter in text])


def check_deed(deed):
    """Refuse a tuple that is no deed by its first text or its count of things."""
    if len(deed) == 0 or deed[0] not in THINGS:
        raise BadDeed("no deed begins so")
    if len(deed) != 1 + len(THINGS[deed[0]]):
        raise BadDeed("this deed has another count of things")


class House:
    """Up to twelve papers, and the deeds that led to them.

    Each deed is kept with the paper of its name ahead of it and behind it, None
    where there is none: a deed changes no other paper.
    """

    def __init__(self):
        self.papers = {}
        self.stand = []
        self.taken_back = []

    def __len__(self):
        return len(self.papers)

    def do(self, deed):
        """Do a deed."""
        check_deed(deed)
        behind = self.paper_behind(deed)
        ahead = self.papers.get(deed[1])
        self.stand.append((deed, ahead, behind))
        self.taken_back = []
        self.put(deed[1], behind)

    def paper_behind(self, deed):
        """Tell the paper that has the deed's name behind it, None where there is none."""
        word, name, *things = deed
        if word == "fold":
            return self.paper_to_add(name, things[0])
        paper = self.paper_named(name)
        if word == "drop":
            return None
        return changed(paper, word, things)

    def paper_to_add(self, name, plan):
        """Tell the new paper of this name and plan."""
        if not is_name(name):
            raise BadName("a name is of 1 to 8 letters a to z")
        if name in self.papers:
            raise Taken("another paper has this name")
        paper = new_paper(plan)
        if len(self.papers) >= MOST_PAPERS:
            raise Full("a house keeps up to twelve papers")
        return paper

    def paper_named(self, name):
        """Tell the paper that has this name."""
        if name not in self.papers:
            raise NoPaper("no paper has this name")
        return self.papers[name]

    def put(self, name, paper):
        """Keep the paper by this name, or none where it is None."""
        if paper is None:
            del self.papers[name]
        else:
            self.papers[name] = paper

    def back(self):
        """Take the last deed back and tell it."""
        if not self.stand:
            raise NoBack("no deed stands")
        deed, ahead, behind = self.stand.pop()
        self.taken_back.append((deed, ahead, behind))
        self.put(deed[1], ahead)
        return deed

    def again(self):
        """Do again what was taken back last, and tell it."""
        if not self.taken_back:
            raise NoForth("no deed was taken back last")
        deed, ahead, behind = self.taken_back.pop()
        self.stand.append((deed, ahead, behind))
        self.put(deed[1], behind)
        return deed

    def deeds(self):
        """Tell the deeds that stand, the eldest first."""
        return [deed for deed, ahead, behind in self.stand]

    def twin(self):
        """Tell a house that has all that this one has."""
        other = House()
        other.papers = dict(self.papers)
        other.stand = list(self.stand)
        other.taken_back = list(self.taken_back)
        return other

    def names(self):
        """Tell the names, rising."""
        return sorted(self.papers)

    def folded(self, name):
        """Tell whether the paper is folded."""
        return self.paper_named(name).folded_by is not None

    def row(self, name):
        """Tell the row of the paper's strip."""
        return self.paper_named(name).letters_of_row

    def plan(self, name):
        """Tell the plan of a folded paper."""
        paper = self.paper_named(name)
        check_folded(paper)
        return paper.folded_by

    def lie(self, name):
        """Tell how a folded paper lies."""
        paper = self.paper_named(name)
        check_folded(paper)
        return paper.lies_at

    def seen(self, name):
        """Tell what is seen of a folded paper on top, by slots."""
        return seen_on_top(self.paper_named(name))

    def beneath(self, name):
        """Tell what is seen of a folded paper beneath, by slots."""
        return seen_beneath(self.paper_named(name))

    def leaf(self, name, copy, side):
        """Tell the colour of a leaf side and the letters at its corners 0, 1 and 2."""
        return leaf_told(self.paper_named(name), copy, side)

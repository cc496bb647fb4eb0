"""One paper: its row, its plan and how it lies while it is folded, and what is on its leaves.

A paper is never changed: each deed makes another one of it. So a house keeps
the papers ahead of its deeds and behind them, and twins keep the same ones.
"""

from pinchfold.errors import BadColour, BadLetter, BadNumber, BadSlot, BadStep, Folded, OtherRow, Unfolded
from pinchfold.places import pinch, turned_over, unpinch
from pinchfold.plans import check_plan
from pinchfold.sights import beneath, ring
from pinchfold.strips import row_of

COLOURS = ("red", "blue", "gold")
LETTERS = "abcdefghijklmnopqrstuvwxyz"
SIDES = ("fore", "back")
FIRST_LIE = (0, 1, 0)
BARE = ("", "---")


class Paper:
    """A paper as it is between two deeds.

    It has its row, and a plan and a lie or None for both. What is on its
    leaves goes by copy and side, each a pair of a colour and the letters at the
    corners 0, 1 and 2; what was never painted or marked is not there.
    """

    def __init__(self, letters_of_row, folded_by, lies_at, leaves):
        self.letters_of_row = letters_of_row
        self.folded_by = folded_by
        self.lies_at = lies_at
        self.leaves = leaves


def new_paper(plan):
    """Tell a paper folded by this plan, with nothing on its leaves."""
    check_plan(plan)
    return Paper(row_of(plan), plan, FIRST_LIE, {})


def check_folded(paper):
    """Refuse a paper that is not folded."""
    if paper.folded_by is None:
        raise Unfolded("this paper is not folded")


def pinched(paper, way):
    """Tell the paper behind a pinch."""
    check_folded(paper)
    return moved(paper, pinch(paper.folded_by, place_of(paper), way))


def unpinched(paper, way):
    """Tell the paper behind an unpinch."""
    check_folded(paper)
    return moved(paper, unpinch(paper.folded_by, place_of(paper), way))


def place_of(paper):
    """Tell the place at which a folded paper stands."""
    top, under, front = paper.lies_at
    return (top, under)


def moved(paper, place):
    """Tell the paper at another place, with the same front."""
    top, under = place
    return lying(paper, (top, under, paper.lies_at[2]))


def lying(paper, lie):
    """Tell the paper as it is when it lies so."""
    return Paper(paper.letters_of_row, paper.folded_by, lie, paper.leaves)


def put_over(paper):
    """Tell the paper turned over."""
    check_folded(paper)
    return moved(paper, turned_over(place_of(paper)))


def put_about(paper):
    """Tell the paper turned about by a third."""
    check_folded(paper)
    top, under, front = paper.lies_at
    return lying(paper, (top, under, (front + 1) % 3))


def painted(paper, slot, colour):
    """Tell the paper with this colour on the leaf side that is on top in the slot."""
    copy, side, corner = top_of_slot(paper, slot)
    if colour not in COLOURS:
        raise BadColour("a colour is red, blue or gold")
    letters = on_leaf(paper, copy, side)[1]
    return with_leaf(paper, copy, side, (colour, letters))


def top_of_slot(paper, slot):
    """Tell the copy, the side and the corner in the middle of the leaf on top in the slot."""
    check_folded(paper)
    if slot < 0 or slot > 5:
        raise BadSlot("slots are from 0 to 5")
    return ring(paper.folded_by, paper.lies_at)[slot]


def on_leaf(paper, copy, side):
    """Tell the pair of the colour and the letters of a leaf side."""
    return paper.leaves.get((copy, side), BARE)


def with_leaf(paper, copy, side, told):
    """Tell the paper with this pair of a colour and letters on one leaf side."""
    leaves = {key: paper.leaves[key] for key in paper.leaves}
    leaves[(copy, side)] = told
    return Paper(paper.letters_of_row, paper.folded_by, paper.lies_at, leaves)


def marked(paper, slot, letter):
    """Tell the paper with this letter at the corner in the middle of the leaf side on top in the slot."""
    copy, side, corner = top_of_slot(paper, slot)
    if not is_letter(letter):
        raise BadLetter("a letter is one of a to z")
    colour, letters = on_leaf(paper, copy, side)
    written = letters[:corner] + letter + letters[corner + 1:]
    return with_leaf(paper, copy, side, (colour, written))


def is_letter(text):
    """Tell whether a text is one letter a to z."""
    return len(text) == 1 and text in LETTERS


def washed(paper, slot):
    """Tell the paper with nothing on the leaf side that is on top in the slot."""
    copy, side, corner = top_of_slot(paper, slot)
    return with_leaf(paper, copy, side, BARE)


def unfolded(paper):
    """Tell the paper as a strip."""
    check_folded(paper)
    return Paper(paper.letters_of_row, None, None, paper.leaves)


def refolded(paper, plan):
    """Tell the paper folded anew of its strip."""
    if paper.folded_by is not None:
        raise Folded("this paper is folded already")
    check_plan(plan)
    wanted = row_of(plan)
    if wanted != paper.letters_of_row:
        raise OtherRow(paper.letters_of_row, wanted)
    return Paper(wanted, plan, FIRST_LIE, paper.leaves)


# The deeds that make another paper of one, by their first texts.
CHANGES = {
    "pinch": pinched,
    "unpinch": unpinched,
    "over": put_over,
    "about": put_about,
    "paint": painted,
    "mark": marked,
    "wash": washed,
    "unfold": unfolded,
    "refold": refolded,
}


def changed(paper, word, things):
    """Tell the paper behind the deed of this word and these things behind its name."""
    change = CHANGES[word]
    return change(paper, *things)


def seen_on_top(paper):
    """Tell what is seen of the paper on top, by slots."""
    check_folded(paper)
    return with_leaves(paper, ring(paper.folded_by, paper.lies_at))


def seen_beneath(paper):
    """Tell what is seen of the paper beneath, by slots."""
    check_folded(paper)
    return with_leaves(paper, beneath(paper.folded_by, paper.lies_at))


def with_leaves(paper, tops):
    """Put the colour and the letters as seen to each copy, side and corner."""
    found = []
    for copy, side, corner in tops:
        colour, letters = on_leaf(paper, copy, side)
        found.append((copy, side, corner, colour, letters_as_seen(letters, side, corner)))
    return found


def letters_as_seen(letters, side, corner):
    """Tell the letters from the one at this corner on to the right."""
    to_right = (letters + letters)[corner:corner + 3]
    if side == "fore":
        return to_right
    # On a back the corners go round the other way, but begin with the same one.
    return to_right[0] + to_right[2] + to_right[1]


def leaf_told(paper, copy, side):
    """Tell the pair of the colour and the letters of a leaf side, or refuse what is none."""
    if copy < 0 or copy >= 3 * len(paper.letters_of_row):
        raise BadNumber("no leaf copy has this number")
    if side not in SIDES:
        raise BadStep("a side is fore or back")
    return on_leaf(paper, copy, side)

"""What is seen of a paper: its six stacks of copies, and the sides and corners on top."""

from pinchfold.errors import BadLie
from pinchfold.places import check_place, stacks, upright
from pinchfold.plans import fan
from pinchfold.strips import strip_order


def middles(plan, place):
    """Tell the corners in the middle of the top leaves, of the even and of the odd stacks."""
    check_place(plan, place)
    top, under = place
    around = fan(plan, top)
    # Each two neighbours in the fan have one part between them.
    between = around.index(under)
    in_all = len(around) - 1
    return (between % 3, (between - in_all) % 3)


def check_lie(plan, lie):
    """Refuse what is no plan, then what is no place of it, then what is no third."""
    top, under, front = lie
    check_place(plan, (top, under))
    if front < 0 or front > 2:
        raise BadLie("a third is 0, 1 or 2")


def ring(plan, lie):
    """Tell the copy, the side and the corner in the middle of the leaf on top, by slots."""
    on_top = [heap[0] for heap in heaps(plan, lie)]
    top, under, front = lie
    even, odd = middles(plan, (top, under))
    seen = []
    for slot, copy in enumerate(on_top):
        seen.append((copy, "fore", even) if slot % 2 == 0 else (copy, "back", odd))
    return seen


def beneath(plan, lie):
    """Tell what ring would tell if the paper were turned over."""
    top, under, front = lie
    return ring(plan, (under, top, front))


def heaps(plan, lie):
    """Tell the copies of each stack from its top to its bottom, by slots."""
    check_lie(plan, lie)
    top, under, front = lie
    faces = plan[0]
    even, odd = stacks(plan, (top, under))
    order = strip_order(plan)
    behind = places_behind(order, even)
    start = front * faces + order.index(top) - behind[top]
    # An odd stack is counted on from the even one that goes ahead of it in the strip:
    # where the strip goes round to the left, that is the even one in the slot beyond it.
    step, ahead = (faces, 0) if upright(plan, (top, under)) else (-faces, -faces)
    found = []
    for begin in (start, start + step, start + 2 * step):
        found.append(copies_of(even, behind, begin))
        found.append(copies_of(odd, behind, begin + ahead))
    return found


def places_behind(order, even):
    """Tell by each leaf how far it is behind the beginning of the even stack in the strip, taken as a ring."""
    faces = len(order)
    first = [at for at in range(faces) if order[at] in even and order[at - 1] not in even][0]
    return {order[(first + step) % faces]: step for step in range(faces)}


def copies_of(leaves, behind, begin):
    """Tell the copies of the leaves where the even stack that they are counted from begins with the copy begin."""
    copies = 3 * len(behind)
    return [(begin + behind[leaf]) % copies for leaf in leaves]

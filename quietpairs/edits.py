"""Changes of wishes: which of them leave the calm dealings as they are, and which of them bring one."""

from quietpairs.dealings import check_size, dealing, each_calm, is_calm
from quietpairs.errors import BadMost, UnlikePeople
from quietpairs.forms import is_up_to

MOST_TO_COMPARE = 8
MOST_TO_MEND = 6
MOST_EXCHANGES = 2


def _only_in(one, other):
    """A calm dealing of the one group that is not one of the other, or None if there is none."""
    for x in each_calm(one):
        if not is_calm(other, x):
            return x
    return None


def parted(one, other):
    """A calm dealing of exactly one of the two groups, or None if they are alike."""
    if sorted(one.people()) != sorted(other.people()):
        raise UnlikePeople()
    # The other group has as many people.
    check_size(one, MOST_TO_COMPARE)
    found = _only_in(one, other)
    return _only_in(other, one) if found is None else found


def alike(one, other):
    """Whether the two groups have the same people and the same calm dealings."""
    return parted(one, other) is None


def harmless(group, a, k):
    """Whether the calm dealings stay the same when a exchanges the open people at k and k + 1."""
    return alike(group, group.exchanged(a, k))


def needless(group, a, b):
    """Whether the calm dealings stay the same when a does not wish for b any more."""
    return alike(group, group.struck(a, b))


def core(group):
    """The group in which needless pairs are struck, one after the other in sorted order."""
    check_size(group, MOST_TO_COMPARE)
    left = group
    for a, b in group.pairs():
        if needless(left, a, b):
            left = left.struck(a, b)
    return left


def _exchanges(group):
    """The sorted list of all exchanges; it stays the same when some of them are made."""
    return sorted([(a, k) for a in group for k in range(len(group.open_to(a)) - 1)])


def _mend_by(group, many):
    """The first list of exactly so many exchanges after which there is a calm dealing, or None."""
    if many == 0:
        return None if dealing(group) is None else []
    for a, k in _exchanges(group):
        behind = _mend_by(group.exchanged(a, k), many - 1)
        if behind is not None:
            return [(a, k)] + behind
    return None


def mend(group, *, most=MOST_EXCHANGES):
    """The first of the shortest lists of exchanges after which there is a calm dealing, or None."""
    if not is_up_to(most, MOST_EXCHANGES):
        raise BadMost(most)
    check_size(group, MOST_TO_MEND)
    for many in range(most + 1):
        found = _mend_by(group, many)
        if found is not None:
            return found
    return None

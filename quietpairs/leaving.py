"""Leaving: how the odd lots change when people leave, and who must leave until a calm dealing exists."""

from quietpairs.dealings import dealing
from quietpairs.halves import half, lots, odd
from quietpairs.seats import pair_along, rings_of


def _change_from(before, group, a):
    """The change when a leaves a group that has the odd lots `before`."""
    after = lots(group.without(a))
    # Exactly one lot goes or comes, so that one of the two lists is empty.
    gone = [lot for lot in before if lot not in after]
    if gone:
        return ("gone", gone[0])
    return ("new", [lot for lot in after if lot not in before][0])


def change(group, a):
    """The one odd lot that goes or comes when a leaves."""
    return _change_from(lots(group), group, a)


def changes(group):
    """The dict from each person to the change."""
    before = lots(group)
    return {a: _change_from(before, group, a) for a in group}


def fewest(group):
    """The least number of people who must leave so that the rest has a calm dealing."""
    return len(odd(group))


def leavers(group):
    """A sorted list of as few people as possible without whom the rest has a calm dealing."""
    return [lot[0] for lot in odd(group)]


def may_leave(group, lot):
    """Whether the rest has a calm dealing when the people of the lot leave."""
    return odd(group.outside(lot)) == []


def rest_dealing(group, lot):
    """A calm dealing of those who stay when the people of the lot leave; None if there is none."""
    return dealing(group.outside(lot))


def most_pairs(group):
    """The greatest number of pairs without a quarrel of two dealt people, and a dealing with so many."""
    x = {a: None for a in group}
    # One person of each odd ring stays alone. The others have somebody whom they like
    # at least as much as the one before, so that no two of them quarrel.
    for ring in rings_of(half(group)):
        pair_along(x, ring)
    return (len([a for a in x if x[a] is not None]) // 2, x)

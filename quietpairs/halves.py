"""Halves: half-way dealings, in which some people stand in rings instead of pairs."""

from quietpairs.dealings import check_dealing
from quietpairs.errors import NoHalf
from quietpairs.forms import bad_index, has_keys
from quietpairs.seats import found_half, rings_of, split_rings


def _has_form(people, x):
    """Whether any value is a dict in which each of the people is the next one of exactly one of them."""
    return has_keys(x, people) and bad_index([x[a] for a in people], people) is None


def _breaks_order(group, x, before, a):
    """Whether a is in a ring of three or more and does not like the next one above the one before."""
    # In rings of one and two the next one is the one before.
    return x[a] != before[a] and group.rank(a, x[a]) > group.rank(a, before[a])


def _wants(group, before, a, b):
    """Whether a is alone, or likes the open person b above the one before a."""
    return before[a] == a or group.rank(a, b) < group.rank(a, before[a])


def fault(group, x):
    """The first condition of a half that any value breaks, with the least people who show it; None for a half."""
    if not _has_form(group.people(), x):
        return ("form",)
    people = sorted(group.people())
    for a in people:
        if x[a] != a and (a, x[a]) not in group:
            return ("open", a, x[a])
    before = {x[a]: a for a in people}
    for a in people:
        if _breaks_order(group, x, before, a):
            return ("order", a)
    for a, b in group.pairs():
        if _wants(group, before, a, b) and _wants(group, before, b, a):
            return ("quarrel", a, b)
    return None


def is_half(group, x):
    """Whether any value is a half of the group."""
    return fault(group, x) is None


def _check_half(group, x):
    """Raise NoHalf if the value is not a half of the group."""
    if not is_half(group, x):
        raise NoHalf()


def half(group):
    """A plain half of the group."""
    return split_rings(found_half(group))


def rings(group, x):
    """The sorted list of the rings of a half, each of them from its least person on."""
    _check_half(group, x)
    return rings_of(x)


def paired(group, x):
    """The plain half that is made of a half when its even rings of four or more are split into pairs."""
    _check_half(group, x)
    return split_rings(x)


def half_of(group, x):
    """The dealing as a dict from each person to the partner, or to the person themselves if alone."""
    check_dealing(group, x)
    return {a: a if x[a] is None else x[a] for a in x}


def lots(group):
    """The sorted list of all odd lots."""
    return sorted([tuple(sorted(ring)) for ring in rings_of(found_half(group)) if len(ring) % 2 == 1])


def odd(group):
    """The sorted list of the odd lots of three or more people."""
    return [lot for lot in lots(group) if len(lot) > 1]


def alone(group):
    """The sorted list of the people who are alone in the halves of the group."""
    return [lot[0] for lot in lots(group) if len(lot) == 1]

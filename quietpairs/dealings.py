"""Dealings: who is the partner of whom, and which dealings are calm."""

from quietpairs.errors import NoDealing, TooMany
from quietpairs.forms import has_keys
from quietpairs.seats import found_half, split_rings

MOST_TO_LIST = 10


def is_dealing(group, x):
    """Whether any value is a dealing of the group."""
    return has_keys(x, group.people()) and all([_fits(group, x, a) for a in group])


def _fits(group, x, a):
    """Whether a is alone, or is the partner of an open partner."""
    b = x[a]
    return b is None or ((a, b) in group and x[b] == a)


def check_dealing(group, x):
    """Raise NoDealing if the value is not a dealing of the group."""
    if not is_dealing(group, x):
        raise NoDealing()


def _above(group, x, a):
    """The people whom a would rather have than what a has in x."""
    row = group.open_to(a)
    return row if x[a] is None else row[:group.rank(a, x[a])]


def quarrels(group, x):
    """The sorted list of the quarrels of a dealing."""
    check_dealing(group, x)
    above = {a: _above(group, x, a) for a in group}
    return [(a, b) for a, b in group.pairs() if b in above[a] and a in above[b]]


def is_calm(group, x):
    """Whether any value is a calm dealing of the group."""
    return is_dealing(group, x) and quarrels(group, x) == []


def _written(x):
    """The dealing written as pairs."""
    return tuple(sorted([(a, x[a]) for a in x if x[a] is not None and a < x[a]]))


def as_pairs(group, x):
    """The dealing written as pairs."""
    check_dealing(group, x)
    return _written(x)


def _is_pair(group, value):
    """Whether any value is a tuple of two persons."""
    return isinstance(value, tuple) and len(value) == 2 and all([person in group.people() for person in value])


def from_pairs(group, pairs):
    """The dealing that is written as these pairs."""
    if not isinstance(pairs, tuple) or not all([_is_pair(group, pair) for pair in pairs]):
        raise NoDealing()
    x = {a: None for a in group}
    for a, b in pairs:
        x[a] = b
        x[b] = a
    # Pairs that are not open, not in order, not sorted, or share people do not come out again.
    if not is_dealing(group, x) or _written(x) != pairs:
        raise NoDealing()
    return x


def dealing(group):
    """A calm dealing, or None if there is none."""
    x = split_rings(found_half(group))
    if any([x[x[a]] != a for a in x]):
        return None
    return {a: None if x[a] == a else x[a] for a in x}


def _is_quiet(group, x, a):
    """Whether a has no quarrel with the people who have a value in x."""
    return not any([b in x and a in _above(group, x, b) for b in _above(group, x, a)])


def dealt(x, a, b):
    """The beginning of a dealing, with a and b as partners; with a alone if b is None."""
    longer = dict(x)
    longer[a] = b
    if b is not None:
        longer[b] = a
    return longer


def _calm_from(group, free, x):
    """The calm dealings, as dicts, in which all but the free people have the value that they have in x."""
    if not free:
        return [x]
    found = []
    a = free[0]
    for b in [None] + [c for c in free if (a, c) in group]:
        longer = dealt(x, a, b)
        # What quarrels now quarrels in every dealing that begins so.
        if _is_quiet(group, longer, a) and (b is None or _is_quiet(group, longer, b)):
            found.extend(_calm_from(group, [c for c in free if c not in longer], longer))
    return found


def check_size(group, most):
    """Raise TooMany if the group has more people than this."""
    if len(group) > most:
        raise TooMany(most)


def calm(group):
    """The sorted list of all calm dealings, written as pairs."""
    check_size(group, MOST_TO_LIST)
    return sorted([_written(x) for x in _calm_from(group, group.people(), {})])


def count(group):
    """The number of calm dealings."""
    return len(calm(group))


def first(group):
    """The first calm dealing, written as pairs, or None if there is none."""
    dealings = calm(group)
    return dealings[0] if dealings else None


def each_calm(group):
    """Goes through all calm dealings, as dicts, in the order of `calm`."""
    for pairs in calm(group):
        yield from_pairs(group, pairs)

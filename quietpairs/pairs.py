"""Pairs of partners: what stands in all calm dealings, in some of them, and in none."""

from quietpairs.dealings import each_calm, is_calm
from quietpairs.errors import NoCalm, NoPerson, NotCalm
from quietpairs.forms import has_keys


def _check_person(group, value):
    """Raise NoPerson if the value is not a person of the group."""
    # A tuple of two open persons is in the group, too, so the people themselves are asked.
    if value not in group.people():
        raise NoPerson(value)


def calm_dealings(group):
    """All calm dealings, as dicts; raises TooMany if there are too many people, and NoCalm if there is none."""
    dealings = list(each_calm(group))
    if not dealings:
        raise NoCalm()
    return dealings


def possible(group):
    """The sorted list of the pairs that are partners in at least one calm dealing."""
    dealings = calm_dealings(group)
    return [(a, b) for a, b in group.pairs() if any([x[a] == b for x in dealings])]


def sure(group):
    """The sorted list of the pairs that are partners in every calm dealing."""
    dealings = calm_dealings(group)
    return [(a, b) for a, b in group.pairs() if all([x[a] == b for x in dealings])]


def _found_with(group, a, x, b, y):
    """A calm dealing in which a has the value x and b has the value y, or None if there is none."""
    for found in calm_dealings(group):
        if found[a] == x and found[b] == y:
            return found
    return None


def with_pair(group, a, b):
    """A calm dealing in which a and b are partners, or a is alone if they are equal; None if there is none."""
    _check_person(group, a)
    _check_person(group, b)
    if a == b:
        return _found_with(group, a, None, a, None)
    return _found_with(group, a, b, b, a)


def both(group, a, x, b, y):
    """A calm dealing in which a has the value x and b has the value y, or None if there is none."""
    _check_person(group, a)
    if x is not None:
        _check_person(group, x)
    _check_person(group, b)
    if y is not None:
        _check_person(group, y)
    return _found_with(group, a, x, b, y)


def may_rows(group, dealings):
    """For each person the list of the partners in these dealings, each once, dearest first."""
    return {a: [b for b in group.open_to(a) if any([x[a] == b for x in dealings])] for a in group}


def may(group, a):
    """The list of the partners that a has in calm dealings, each once, dearest first."""
    _check_person(group, a)
    return may_rows(group, calm_dealings(group))[a]


def best(group, a):
    """The dearest partner that a has in calm dealings, or None if a is alone in them."""
    row = may(group, a)
    return row[0] if row else None


def worst(group, a):
    """The least dear partner that a has in calm dealings, or None if a is alone in them."""
    row = may(group, a)
    return row[-1] if row else None


def _table_of(group, dealings):
    """The table of these dealings, for all two people of the group."""
    return {(a, b): sorted({(x[a], x[b]) for x in dealings}) for a in group for b in group if a < b}


def table(group):
    """For all two people the sorted list of the values that they have together in calm dealings."""
    return _table_of(group, calm_dealings(group))


def takes_from(rows, x):
    """Whether any value is a dict that gives each person one of the own row, or None where that row is empty."""
    return has_keys(x, list(rows)) and all([x[a] in (rows[a] or [None]) for a in rows])


def by_table(group, x):
    """Whether any value is a calm dealing, as the table tells."""
    dealings = calm_dealings(group)
    if not takes_from(may_rows(group, dealings), x):
        return False
    lines = _table_of(group, dealings)
    return all([(x[a], x[b]) in lines[(a, b)] for a, b in lines])


def middle(group, one, two, three):
    """The calm dealing in which each person has the middle one of the partners in three calm dealings."""
    for index, x in enumerate([one, two, three]):
        if not is_calm(group, x):
            raise NotCalm(index)
    dealt = {a: None for a in group}
    for a in group:
        # The same people are alone in all calm dealings.
        if one[a] is not None:
            ranks = sorted([group.rank(a, one[a]), group.rank(a, two[a]), group.rank(a, three[a])])
            dealt[a] = group.open_to(a)[ranks[1]]
    return dealt

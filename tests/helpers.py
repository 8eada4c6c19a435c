"""What several tests use: groups, values of every kind, and a search that knows only the wishes."""

import random

from quietpairs.groups import Group

NAMES = ("ann", "bob", "cat", "dan", "eve", "fay", "gus", "hal",
         "ivy", "joe", "kim", "leo", "mia", "ned", "oda", "pam")


def triangle():
    """Three people of whom each likes the next one most."""
    wishes = {"ann": ["bob", "cat"], "bob": ["cat", "ann"], "cat": ["ann", "bob"]}
    return Group(("ann", "bob", "cat"), wishes)


def square():
    """Four people in a ring, with two calm dealings."""
    wishes = {"ann": ["bob", "dan"], "bob": ["cat", "ann"], "cat": ["dan", "bob"], "dan": ["ann", "cat"]}
    return Group(("ann", "bob", "cat", "dan"), wishes)


def uneven():
    """Four people, not in sorted order, with wishes that are not answered."""
    wishes = {"dan": ["ann", "bob", "cat"], "bob": ["dan"], "ann": ["cat", "bob", "dan"], "cat": ["ann", "dan", "bob"]}
    return Group(("dan", "bob", "ann", "cat"), wishes)


def everybody(many):
    """That many people, each of whom wishes for all others in party order."""
    people = NAMES[:many]
    return Group(people, {a: [b for b in people if b != a] for a in people})


def random_group(source, many, part):
    """A group of that many people; a person leaves out wishes with the probability `part`."""
    people = list(NAMES[:many])
    wishes = {}
    for a in people:
        row = [b for b in people if b != a]
        source.shuffle(row)
        wishes[a] = row[:source.randint(0, len(row))] if source.random() < part else row
    source.shuffle(people)
    return Group(tuple(people), wishes)


def random_groups(seed, times, least, most):
    """The same groups in each run."""
    source = random.Random(seed)
    return [random_group(source, source.randint(least, most), source.choice((0, 0.3, 1))) for _ in range(times)]


def nested(kind, depth):
    """A value in a list, tuple or dict, that many deep."""
    value = "ann"
    for _ in range(depth):
        value = {"list": [value], "tuple": (value,), "dict": {"ann": value}}[kind]
    return value


def any_values():
    """Values of every kind that a caller may pass where any value is allowed; no name and no index among them."""
    return [
        None, True, False, -1, 99, 10 ** 30, "", "Ann", "zed1", "ann bob", "\n", "ann\n", "~", " ", "abcdefghi", "ANN",
        [], [1], ["ann"], ["ann", "ann"], [["ann"]], (), ("ann",), ("ann", "bob", "cat"), (1, 2), (["ann"], "bob"),
        {}, {"ann": None}, {"ann": "bob"}, {1: "ann"}, {("ann", "bob"): ["cat"]}, {None: {}},
        nested("list", 90), nested("tuple", 90), nested("dict", 90), triangle(), [triangle()], {"ann": triangle()},
    ]


def raises(case, error, attributes, function, *passed, **named):
    """Check that the call raises exactly this error with exactly these attributes."""
    try:
        answer = function(*passed, **named)
    except ValueError as caught:
        case.assertIs(caught.__class__, error)
        case.assertEqual(vars(caught), attributes)
        for key, want in attributes.items():
            case.assertIs(vars(caught)[key].__class__, want.__class__)
        return
    case.fail(f"{error.__name__} was not raised, but returned was {answer!r}")


def matchings(names):
    """Every way to deal these names, whoever is open to whom."""
    if not names:
        return [{}]
    a, rest = names[0], names[1:]
    found = [{a: None, **x} for x in matchings(rest)]
    for b in rest:
        found.extend([{a: b, b: a, **x} for x in matchings([c for c in rest if c != b])])
    return found


def plain_quarrels(group, x):
    """The quarrels of a dealing, read off the wishes alone."""
    wishes = {a: group.wishes(a) for a in group.people()}

    def wants(a, b):
        return b in wishes[a] and (x[a] is None or wishes[a].index(b) < wishes[a].index(x[a]))

    return [(a, b) for a in sorted(x) for b in sorted(x) if a < b and x[a] != b and wants(a, b) and wants(b, a)]


def plain_dealings(group):
    """All dealings of a group, read off the wishes alone."""
    wishes = {a: group.wishes(a) for a in group.people()}
    return [x for x in matchings(group.people())
            if all(b is None or (b in wishes[a] and a in wishes[b]) for a, b in x.items())]


def plain_pairs(x):
    """A dealing written as pairs."""
    return tuple(sorted((a, b) for a, b in x.items() if b is not None and a < b))


def plain_calm(group):
    """All calm dealings written as pairs, by a search through all dealings."""
    return sorted(plain_pairs(x) for x in plain_dealings(group) if not plain_quarrels(group, x))


def is_half(group, x):
    """Whether x is a half as point 14 says, read off the wishes alone."""
    wishes = {a: [b for b in group.wishes(a) if a in group.wishes(b)] for a in group.people()}
    if sorted(x) != sorted(wishes) or sorted(x.values()) != sorted(wishes):
        return False
    before = {b: a for a, b in x.items()}

    def wants(a, b):
        return b in wishes[a] and (x[a] == a or wishes[a].index(b) < wishes[a].index(before[a]))

    for a, b in x.items():
        if b != a and b not in wishes[a]:
            return False
        if b != before[a] and wishes[a].index(b) > wishes[a].index(before[a]):
            return False
    return not any(wants(a, b) and wants(b, a) for a in x for b in x if a != b)

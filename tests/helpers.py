"""What several tests use: groups, values of every kind, and a search that knows only the wishes."""

import itertools
import random

from quietpairs.groups import Group

NAMES = ("ann", "bob", "cat", "dan", "eve", "fay", "gus", "hal",
         "ivy", "joe", "kim", "leo", "mia", "ned", "oda", "pam")


def triangle():
    """Three people of whom each likes the next one most."""
    wishes = {"ann": ["bob", "cat"], "bob": ["cat", "ann"], "cat": ["ann", "bob"]}
    return Group(("ann", "bob", "cat"), wishes)


def square():
    """Four people in a ring, with two calm dealings."""
    wishes = {"ann": ["bob", "dan"], "bob": ["cat", "ann"], "cat": ["dan", "bob"], "dan": ["ann", "cat"]}
    return Group(("ann", "bob", "cat", "dan"), wishes)


def uneven():
    """Four people, not in sorted order, with wishes that are not answered."""
    wishes = {"dan": ["ann", "bob", "cat"], "bob": ["dan"], "ann": ["cat", "bob", "dan"], "cat": ["ann", "dan", "bob"]}
    return Group(("dan", "bob", "ann", "cat"), wishes)


def everybody(many):
    """That many people, each of whom wishes for all others in party order."""
    people = NAMES[:many]
    return Group(people, {a: [b for b in people if b != a] for a in people})


def ring_group(*sizes):
    """Rings of these sizes, one behind the other: each person likes the next one of the ring above the one before."""
    wishes = {}
    for size in sizes:
        ring = NAMES[len(wishes):len(wishes) + size]
        around = {a: [ring[(k + 1) % size], ring[k - 1]] for k, a in enumerate(ring)}
        wishes.update({a: [b for b in dict.fromkeys(row) if b != a] for a, row in around.items()})
    return Group(NAMES[:len(wishes)], wishes)


def two_sides(many):
    """Two sides of that many people, who wish for the other side alone; there are as many calm dealings."""
    left, right = NAMES[:many], NAMES[many:2 * many]
    wishes = {a: [right[(k + j) % many] for j in range(many)] for k, a in enumerate(left)}
    wishes.update({a: [left[(k + j + 1) % many] for j in range(many)] for k, a in enumerate(right)})
    return Group(left + right, wishes)


def random_group(source, many, part):
    """A group of that many people; a person leaves out wishes with the probability `part`."""
    people = list(NAMES[:many])
    wishes = {}
    for a in people:
        row = [b for b in people if b != a]
        source.shuffle(row)
        wishes[a] = row[:source.randint(0, len(row))] if source.random() < part else row
    source.shuffle(people)
    return Group(tuple(people), wishes)


def random_groups(seed, times, least, most):
    """The same groups in each run."""
    source = random.Random(seed)
    return [random_group(source, source.randint(least, most), source.choice((0, 0.3, 1))) for _ in range(times)]


def renamed_groups(seed, group, times):
    """The group, whose people are called otherwise and stand in another party order, that many times."""
    source = random.Random(seed)
    found = []
    for _ in range(times):
        people = group.people()
        names = dict(zip(people, source.sample(NAMES, len(people))))
        source.shuffle(people)
        wishes = {names[a]: [names[b] for b in group.wishes(a)] for a in people}
        found.append(Group(tuple(names[a] for a in people), wishes))
    return found


def changed_groups(seed, group, times):
    """The group after a few random changes of wishes, that many times."""
    source = random.Random(seed)
    found = []
    for _ in range(times):
        wishes = {a: group.wishes(a) for a in group}
        for _ in range(source.randint(1, 6)):
            # Somebody comes to be open to somebody else, or two places are exchanged.
            a, b = source.sample(group.people(), 2)
            for c, d in ((a, b), (b, a)):
                if d in wishes[c]:
                    wishes[c].remove(d)
                wishes[c].insert(source.randint(0, len(wishes[c])), d)
        found.append(Group(tuple(group.people()), wishes))
    return found


def small_groups():
    """Groups of up to eight people, with a calm dealing or without one, some of them with several."""
    found = random_groups(41, 150, 0, 6) + random_groups(42, 20, 7, 7) + changed_groups(43, two_sides(3), 40)
    found.extend(changed_groups(44, two_sides(4), 12) + changed_groups(45, ring_group(4, 4), 4))
    for seed, group in enumerate((two_sides(2), two_sides(3), ring_group(4), ring_group(4, 1), ring_group(4, 2),
                                  ring_group(4, 3), ring_group(6), ring_group(3, 3), ring_group(5, 2))):
        found.extend(renamed_groups(seed, group, 3))
    return found


def nested(kind, depth):
    """A value in a list, tuple or dict, that many deep."""
    value = "ann"
    for _ in range(depth):
        value = {"list": [value], "tuple": (value,), "dict": {"ann": value}}[kind]
    return value


def any_values():
    """Values of every kind that a caller may pass where any value is allowed; no name and no index among them."""
    return [
        None, True, False, -1, 99, 10 ** 30, "", "Ann", "zed1", "ann bob", "\n", "ann\n", "~", " ", "abcdefghi", "ANN",
        [], [1], ["ann"], ["ann", "ann"], [["ann"]], (), ("ann",), ("ann", "bob", "cat"), (1, 2), (["ann"], "bob"),
        {}, {"ann": None}, {"ann": "bob"}, {1: "ann"}, {("ann", "bob"): ["cat"]}, {None: {}},
        nested("list", 90), nested("tuple", 90), nested("dict", 90), triangle(), [triangle()], {"ann": triangle()},
    ]


def bad_dealings():
    """Values that are nearly dealings of the triangle."""
    return [
        {"ann": "bob", "bob": "ann"}, {"ann": None, "bob": None, "cat": None, "dan": None},
        {"ann": "bob", "bob": None, "cat": None}, {"ann": "bob", "bob": "cat", "cat": "ann"},
        {"ann": "ann", "bob": None, "cat": None}, {"ann": "bob", "bob": "ann", "cat": "ann"},
        {"ann": None, "bob": None, 1: None}, {"ann": None, "bob": None, ("cat",): None},
        {"ann": "dan", "bob": None, "cat": None}, [("ann", "bob")], "ann", ("ann", "bob"),
    ]


def raises(case, error, attributes, function, *passed, **named):
    """Check that the call raises exactly this error with exactly these attributes."""
    try:
        answer = function(*passed, **named)
    except ValueError as caught:
        case.assertIs(caught.__class__, error)
        case.assertEqual(vars(caught), attributes)
        for key, want in attributes.items():
            case.assertIs(vars(caught)[key].__class__, want.__class__)
        return
    case.fail(f"{error.__name__} was not raised, but returned was {answer!r}")


def matchings(names):
    """Every way to deal these names, whoever is open to whom."""
    if not names:
        return [{}]
    a, rest = names[0], names[1:]
    found = [{a: None, **x} for x in matchings(rest)]
    for b in rest:
        found.extend([{a: b, b: a, **x} for x in matchings([c for c in rest if c != b])])
    return found


def plain_quarrels(group, x):
    """The quarrels of a dealing, read off the wishes alone."""
    wishes = {a: group.wishes(a) for a in group.people()}

    def wants(a, b):
        return b in wishes[a] and (x[a] is None or wishes[a].index(b) < wishes[a].index(x[a]))

    return [(a, b) for a in sorted(x) for b in sorted(x) if a < b and x[a] != b and wants(a, b) and wants(b, a)]


def plain_dealings(group):
    """All dealings of a group, read off the wishes alone."""
    wishes = {a: group.wishes(a) for a in group.people()}
    return [x for x in matchings(group.people())
            if all(b is None or (b in wishes[a] and a in wishes[b]) for a, b in x.items())]


def plain_pairs(x):
    """A dealing written as pairs."""
    return tuple(sorted((a, b) for a, b in x.items() if b is not None and a < b))


def plain_calm(group):
    """All calm dealings written as pairs, by a search through all dealings."""
    return sorted(plain_pairs(x) for x in plain_dealings(group) if not plain_quarrels(group, x))


def turned(x):
    """The same dict with its keys in another order."""
    return {a: x[a] for a in reversed(list(x))}


def plain_calm_dicts(group):
    """All calm dealings as dicts, by a search through all dealings."""
    return [x for x in plain_dealings(group) if not plain_quarrels(group, x)]


def calm_groups():
    """Small groups with at least one calm dealing, with all calm dealings of each."""
    found = [(group, plain_calm_dicts(group)) for group in small_groups()]
    return [(group, dealings) for group, dealings in found if dealings]


def open_rows(group):
    """The people who are open to each person, read off the wishes alone."""
    wishes = {a: group.wishes(a) for a in group.people()}
    return {a: [b for b in wishes[a] if a in wishes[b]] for a in wishes}


def ring_from(x, a):
    """The ring of a, as a list that begins with a."""
    ring = [a]
    while x[ring[-1]] != a:
        ring.append(x[ring[-1]])
    return ring


def plain_fault(group, x):
    """What point 17 says of a dict from people to people, read off the wishes alone."""
    rows = open_rows(group)
    if sorted(x) != sorted(rows) or sorted(x.values()) != sorted(rows):
        return ("form",)
    for a in sorted(x):
        if x[a] != a and x[a] not in rows[a]:
            return ("open", a, x[a])
    before = {a: ring_from(x, a)[-1] for a in x}
    for a in sorted(x):
        if len(ring_from(x, a)) > 2 and rows[a].index(x[a]) > rows[a].index(before[a]):
            return ("order", a)

    def wants(a, b):
        return b in rows[a] and (x[a] == a or rows[a].index(b) < rows[a].index(before[a]))

    quarrels = [(a, b) for a in x for b in x if a < b and wants(a, b) and wants(b, a)]
    return ("quarrel", *min(quarrels)) if quarrels else None


def is_half(group, x):
    """Whether x is a half as point 14 says, read off the wishes alone."""
    return plain_fault(group, x) is None


def is_plain(x):
    """Whether each ring has one or two people or an odd number of people."""
    return all(len(ring_from(x, a)) == 2 or len(ring_from(x, a)) % 2 == 1 for a in x)


def plain_halves(group):
    """All halves of a group, found by going through all dicts."""
    people = group.people()
    dicts = [dict(zip(people, row)) for row in itertools.permutations(people)]
    return [x for x in dicts if is_half(group, x)]


def plain_lots(x):
    """The people of the odd rings of a half."""
    rings = {tuple(sorted(ring_from(x, a))) for a in x}
    return sorted(ring for ring in rings if len(ring) % 2 == 1)


def some_half(group):
    """The first half of the group in the order of all dicts."""
    return next(x for x in (dict(zip(group.people(), row)) for row in itertools.permutations(group.people()))
                if is_half(group, x))

"""One half of a group, found by asking seats and answering seats.

In the dicts here, asks[a] is the person whose answering seat holds the asking seat of a,
and holds[b] is the person whose asking seat the answering seat of b holds, None where there is none.
"""


def _would_hold(group, holds, b, a):
    """Whether the answering seat of b would rather hold a than what it holds."""
    return holds[b] is None or group.rank(b, a) < group.rank(b, holds[b])


def _first_asks(group):
    """The asks when all asking seats have asked down their lists and nobody asks any more."""
    asks = {a: None for a in group}
    holds = {a: None for a in group}
    turns = {a: 0 for a in group}
    asking = group.people()
    while asking:
        a = asking.pop()
        row = group.open_to(a)
        if turns[a] == len(row):
            continue
        b = row[turns[a]]
        turns[a] += 1
        if not _would_hold(group, holds, b, a):
            asking.append(a)
            continue
        if holds[b] is not None:
            asks[holds[b]] = None
            asking.append(holds[b])
        asks[a] = b
        holds[b] = a
    return asks


def _held(asks):
    """The holds that belong to the asks."""
    holds = {a: None for a in asks}
    for a in asks:
        if asks[a] is not None:
            holds[asks[a]] = a
    return holds


def _lower(group, asks, holds, a):
    """The first person behind asks[a] whose answering seat would rather hold a; None if there is none."""
    if asks[a] is None:
        return None
    for c in group.open_to(a)[group.rank(a, asks[a]) + 1:]:
        if _would_hold(group, holds, c, a):
            return c
    return None


def _cycles(behind):
    """The cycles in which each person is followed by the one behind; None ends a way."""
    cycles = []
    seen = {}
    for start in behind:
        way = []
        at = start
        while at is not None and at not in seen:
            seen[at] = True
            way.append(at)
            at = behind[at]
        # A way that runs into an earlier one, or ends, closes no cycle of its own.
        if at in way:
            cycles.append(way[way.index(at):])
    return cycles


def _keeps_order(group, asks):
    """Whether each person likes asks[a] at least as much as holds[a]."""
    holds = _held(asks)
    return all([group.rank(a, asks[a]) <= group.rank(a, holds[a]) for a in group if asks[a] is not None])


def _next_asks(group, asks):
    """The asks after one more cycle is passed on; None if no cycle can be passed on."""
    holds = _held(asks)
    lowers = {a: _lower(group, asks, holds, a) for a in group}
    behind = {a: None if lowers[a] is None else holds[lowers[a]] for a in group}
    for cycle in _cycles(behind):
        passed = dict(asks)
        for a in cycle:
            passed[a] = lowers[a]
        if _keeps_order(group, passed):
            return passed
    return None


def found_half(group):
    """A half of the group, from each person to the next one. It need not be plain."""
    asks = _first_asks(group)
    passed = asks
    while passed is not None:
        asks = passed
        passed = _next_asks(group, asks)
    return {a: a if asks[a] is None else asks[a] for a in asks}


def rings_of(x):
    """The sorted list of the rings of a dict in which each person is the next one of exactly one person."""
    rings = []
    seen = {}
    for start in sorted(x):
        ring = []
        at = start
        while at not in seen:
            seen[at] = True
            ring.append(at)
            at = x[at]
        if ring:
            rings.append(tuple(ring))
    return rings


def pair_along(x, ring):
    """Pair the people of a ring off in x, from its first person on; the last one of an odd ring is passed by."""
    for k in range(0, len(ring) - 1, 2):
        x[ring[k]] = ring[k + 1]
        x[ring[k + 1]] = ring[k]


def split_rings(x):
    """The same dict, but each ring of an even number of people is split into pairs, from its least person on."""
    split = dict(x)
    for ring in rings_of(x):
        if len(ring) % 2 == 0:
            pair_along(split, ring)
    return split

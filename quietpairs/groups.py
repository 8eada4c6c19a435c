"""Groups: people, and whom each of them wishes for."""

from quietpairs.errors import BadLot, BadName, BadNames, BadPeople, BadPlace, BadPlaces, BadWishes
from quietpairs.errors import NoPerson, NotOpen, TooMany
from quietpairs.forms import bad_index, has_keys, is_lot, is_name, is_up_to

MOST_PEOPLE = 16


def _check_people(people):
    """Raise BadPeople if these are not 0 to 16 different names."""
    if not isinstance(people, tuple) or len(people) > MOST_PEOPLE:
        raise BadPeople(-1)
    index = bad_index(people, [person for person in people if is_name(person)])
    if index is not None:
        raise BadPeople(index)


def _check_wishes(people, wishes):
    """Raise BadWishes if these are not the wishes of these people."""
    if not has_keys(wishes, people):
        raise BadWishes("")
    for person in sorted(people):
        if not is_lot(wishes[person], [other for other in people if other != person]):
            raise BadWishes(person)


def _open_rows(wishes):
    """For each person the list of those wished for who wish back."""
    return {a: [b for b in wishes[a] if a in wishes[b]] for a in wishes}


def _rank_rows(rows):
    """For each person the index of each item of the person's row."""
    return {a: {b: index for index, b in enumerate(rows[a])} for a in rows}


class Group:
    """People, and whom each of them wishes for. A group never changes."""

    def __init__(self, people, wishes):
        _check_people(people)
        _check_wishes(people, wishes)
        self._people = people
        self._wishes = {a: list(wishes[a]) for a in people}
        self._opens = _open_rows(self._wishes)
        self._ranks = _rank_rows(self._opens)

    def people(self):
        """The list of people in party order."""
        return list(self._people)

    def wishes(self, a):
        """The list of the wishes of a, dearest first."""
        self._check_person(a)
        return list(self._wishes[a])

    def open_to(self, a):
        """The list of the people who are open to a, in the order of the wishes of a."""
        self._check_person(a)
        return list(self._opens[a])

    def rank(self, a, b):
        """The index of b among the people who are open to a."""
        self._check_open(a, b)
        return self._ranks[a][b]

    def pairs(self):
        """The sorted list of all open pairs."""
        return sorted([(a, b) for a in self._people for b in self._opens[a] if a < b])

    def with_wishes(self, a, wishes):
        """The group in which a has these wishes instead."""
        self._check_person(a)
        # All other rows fit, so that only this one can raise BadWishes in the new group.
        return self._with_row(a, wishes)

    def without(self, a):
        """The group that a has left."""
        self._check_person(a)
        return self._with_only([b for b in self._people if b != a])

    def joined(self, name, wishes, *, places):
        """The group with one more person, last in party order, at these places in the wishes of others."""
        if not is_name(name) or name in self._wishes:
            raise BadName(name)
        if not is_lot(wishes, self._people):
            raise BadWishes(name)
        self._check_places(places)
        if len(self._people) == MOST_PEOPLE:
            raise TooMany(MOST_PEOPLE)
        rows = {a: list(self._wishes[a]) for a in self._people}
        for a in places:
            rows[a].insert(places[a], name)
        rows[name] = wishes
        return Group(self._people + (name,), rows)

    def renamed(self, names):
        """The group in which each person a is called names[a]."""
        self._check_names(names)
        people = tuple([names[a] for a in self._people])
        return Group(people, {names[a]: [names[b] for b in self._wishes[a]] for a in self._people})

    def inside(self, lot):
        """The group of the people of the lot alone."""
        self._check_lot(lot)
        return self._with_only([a for a in self._people if a in lot])

    def outside(self, lot):
        """The group that the people of the lot have left."""
        self._check_lot(lot)
        return self._with_only([a for a in self._people if a not in lot])

    def exchanged(self, a, k):
        """The group in which the open people at k and k + 1 have exchanged their places in the wishes of a."""
        self._check_person(a)
        row = self._opens[a]
        if not is_up_to(k, len(row) - 2):
            raise BadPlace(k)
        turned = {row[k]: row[k + 1], row[k + 1]: row[k]}
        return self._with_row(a, [turned.get(b, b) for b in self._wishes[a]])

    def struck(self, a, b):
        """The group in which a does not wish for b any more, who is open to a."""
        self._check_open(a, b)
        return self._with_row(a, [c for c in self._wishes[a] if c != b])

    def __len__(self):
        return len(self._people)

    def __contains__(self, x):
        if isinstance(x, tuple) and len(x) == 2:
            return self._has(x[0]) and self._has(x[1]) and x[1] in self._ranks[x[0]]
        return self._has(x)

    def __getitem__(self, at):
        return self.open_to(at)

    def __iter__(self):
        return iter(self._people)

    def __eq__(self, other):
        return isinstance(other, Group) and self._people == other._people and self._wishes == other._wishes

    def _has(self, value):
        """Whether any value is a person of the group."""
        # A list or a dict cannot be looked up among the keys of a dict.
        return isinstance(value, str) and value in self._wishes

    def _check_person(self, value):
        """Raise NoPerson if the value is not a person of the group."""
        if not self._has(value):
            raise NoPerson(value)

    def _check_open(self, a, b):
        """Raise NoPerson or NotOpen if these are not two persons that are open to each other."""
        self._check_person(a)
        self._check_person(b)
        if b not in self._ranks[a]:
            raise NotOpen(a, b)

    def _check_places(self, places):
        """Raise BadPlaces if these are not indexes at which people can insert a new wish."""
        if not isinstance(places, dict) or not all([self._has(a) for a in places]):
            raise BadPlaces("")
        for a in sorted(places):
            if not is_up_to(places[a], len(self._wishes[a])):
                raise BadPlaces(a)

    def _check_names(self, names):
        """Raise BadNames if these are not different new names for all people."""
        if not has_keys(names, self._people):
            raise BadNames("")
        taken = []
        for a in sorted(self._people):
            if not is_name(names[a]) or names[a] in taken:
                raise BadNames(a)
            taken.append(names[a])

    def _check_lot(self, lot):
        """Raise BadLot if this is not a list of different people of the group."""
        if not isinstance(lot, list):
            raise BadLot(-1)
        index = bad_index(lot, self._people)
        if index is not None:
            raise BadLot(index)

    def _with_row(self, a, row):
        """The group in which a has the wishes of this row."""
        rows = dict(self._wishes)
        rows[a] = row
        return Group(self._people, rows)

    def _with_only(self, people):
        """The group of these people alone, who are passed in party order."""
        return Group(tuple(people), {a: [b for b in self._wishes[a] if b in people] for a in people})

"""The errors of the program, each with the attributes that tell what was not as required."""


def copied(value):
    """A copy of any value, so that an error keeps what it was raised for."""
    if isinstance(value, list):
        return [copied(item) for item in value]
    if isinstance(value, tuple):
        return tuple([copied(item) for item in value])
    if isinstance(value, dict):
        return {key: copied(value[key]) for key in value}
    return value


class QuietError(ValueError):
    """The base class of all errors of the program."""


class BadPeople(QuietError):
    """The people of a group are not 0 to 16 different names."""

    def __init__(self, index):
        super().__init__("the people are not a tuple of at most 16 different names")
        self.index = index


class BadWishes(QuietError):
    """Wishes are not lists of different other people of the group."""

    def __init__(self, person):
        super().__init__("the wishes are not lists of different other people of the group")
        self.person = person


class BadName(QuietError):
    """A new name is not a name, or somebody has it already."""

    def __init__(self, value):
        super().__init__("this is not a name that is free in the group")
        self.value = copied(value)


class BadPlaces(QuietError):
    """Places are not indexes in the wishes of people of the group."""

    def __init__(self, person):
        super().__init__("the places are not indexes in the wishes of people of the group")
        self.person = person


class BadNames(QuietError):
    """New names are not one different name for each person of the group."""

    def __init__(self, person):
        super().__init__("the new names are not a different name for each person")
        self.person = person


class BadLot(QuietError):
    """A lot is not a list of different people of the group."""

    def __init__(self, index):
        super().__init__("the lot is not a list of different people of the group")
        self.index = index


class BadPlace(QuietError):
    """A place is not an index of two neighbours that can be exchanged."""

    def __init__(self, value):
        super().__init__("there are no two open people to exchange at this place")
        self.value = copied(value)


class NoPerson(QuietError):
    """A value is not a person of the group."""

    def __init__(self, value):
        super().__init__("this is not a person of the group")
        self.value = copied(value)


class NotOpen(QuietError):
    """Two persons are not open to each other."""

    def __init__(self, one, other):
        super().__init__("these two persons are not open to each other")
        self.one = one
        self.other = other


class TooMany(QuietError):
    """A group has more people than the function takes."""

    def __init__(self, most):
        super().__init__("there are too many people")
        self.most = most


class NoDealing(QuietError):
    """A value is not a dealing of the group."""

    def __init__(self):
        super().__init__("this is not a dealing of the group")


class NoHalf(QuietError):
    """A value is not a half of the group."""

    def __init__(self):
        super().__init__("this is not a half of the group")


class NoCalm(QuietError):
    """The group has no calm dealing."""

    def __init__(self):
        super().__init__("the group has no calm dealing")


class NotCalm(QuietError):
    """One of several values is not a calm dealing of the group."""

    def __init__(self, index):
        super().__init__("this is not a calm dealing of the group")
        self.index = index


class NoStatement(QuietError):
    """A value is not a statement about the group."""

    def __init__(self):
        super().__init__("this is not a statement about the group")


class BadWeights(QuietError):
    """Weights are not integers from 0 on, or belong to something that is not a name."""

    def __init__(self, name):
        super().__init__("the weights are not integers from 0 on for names")
        self.name = name


class UnlikePeople(QuietError):
    """Two groups do not have the same people."""

    def __init__(self):
        super().__init__("the two groups do not have the same people")


class BadMost(QuietError):
    """A greatest number of exchanges is not an integer from 0 to 2."""

    def __init__(self, value):
        super().__init__("the greatest number of exchanges is not an integer from 0 to 2")
        self.value = copied(value)


class NoGroup(QuietError):
    """A value is not a group."""

    def __init__(self):
        super().__init__("this is not a group")


class NoUndo(QuietError):
    """There is no deed that can be taken back."""

    def __init__(self):
        super().__init__("there is no deed that can be taken back")


class NoText(QuietError):
    """A text is not written as required."""

    def __init__(self, line):
        super().__init__("this line of the text does not fit")
        self.line = line

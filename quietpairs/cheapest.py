"""Costs: weights for names, and the calm dealings that cost least."""

from quietpairs.dealings import check_dealing
from quietpairs.errors import BadWeights
from quietpairs.forms import is_from_zero, is_name
from quietpairs.pairs import calm_dealings


def _check_weights(weights, rest):
    """Raise BadWeights if these are not weights of names, or no weight of the rest."""
    if not isinstance(weights, dict) or not all([is_name(name) for name in weights]) or not is_from_zero(rest):
        raise BadWeights("")
    for name in sorted(weights):
        if not is_from_zero(weights[name]):
            raise BadWeights(name)


class Scale:
    """A weight for each name. A scale never changes."""

    def __init__(self, weights, *, rest=1):
        _check_weights(weights, rest)
        # Only weights unlike the rest are kept, so that equal scales have equal dicts.
        self._weights = {name: weights[name] for name in weights if weights[name] != rest}
        self._rest = rest

    def weight(self, name):
        """The weight of a name."""
        return self._weights.get(name, self._rest)

    def __add__(self, other):
        names = list(self._weights) + list(other._weights)
        return Scale({name: self.weight(name) + other.weight(name) for name in names}, rest=self._rest + other._rest)

    def __eq__(self, other):
        return isinstance(other, Scale) and self._rest == other._rest and self._weights == other._weights

    def __call__(self, group, x):
        check_dealing(group, x)
        return sum([group.rank(a, x[a]) * self.weight(a) for a in group if x[a] is not None])


def total(group, x):
    """The cost of a dealing in which each name has the weight 1."""
    scale = Scale({})
    return scale(group, x)


def worst_rank(group, x):
    """The greatest rank of a partner in a dealing, or 0 if nobody is dealt."""
    check_dealing(group, x)
    return max([group.rank(a, x[a]) for a in group if x[a] is not None], default=0)


def _least(numbers, dealings):
    """The least of the numbers, with the dealing that stands at its place."""
    least = min(numbers)
    return (least, dealings[numbers.index(least)])


def least_total(group, scale):
    """The least cost of a calm dealing, and a calm dealing of that cost."""
    dealings = calm_dealings(group)
    return _least([scale(group, x) for x in dealings], dealings)


def least_worst(group):
    """The least worst rank of a calm dealing, and a calm dealing with it."""
    dealings = calm_dealings(group)
    return _least([worst_rank(group, x) for x in dealings], dealings)

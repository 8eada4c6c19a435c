"""What a partner brings: statements about calm dealings, and the clauses that tell all of them."""

from quietpairs.dealings import check_dealing
from quietpairs.errors import NoStatement
from quietpairs.pairs import calm_dealings, may_rows, takes_from

KINDS = ("least", "most")


def _check_statement(rows, value):
    """Raise NoStatement if the value is not a statement; the rows tell which partners each person may have."""
    fits = isinstance(value, tuple) and len(value) == 3 and value[0] in KINDS
    if not fits or not any([value[1] == a and value[2] in rows[a] for a in rows]):
        raise NoStatement()


def _is_true(group, x, statement):
    """Whether the statement holds for the values of x, each of which is None or an open person."""
    kind, a, b = statement
    if x[a] is None:
        return kind == "most"
    if kind == "least":
        return group.rank(a, x[a]) <= group.rank(a, b)
    return group.rank(a, x[a]) >= group.rank(a, b)


def _brings(group, dealings, one, other):
    """Whether the other statement holds in each of the dealings in which the one holds."""
    return all([_is_true(group, x, other) for x in dealings if _is_true(group, x, one)])


def holds(group, x, statement):
    """Whether the statement holds in the dealing, calm or not."""
    check_dealing(group, x)
    _check_statement(may_rows(group, calm_dealings(group)), statement)
    return _is_true(group, x, statement)


def tells(group, one_statement, other_statement):
    """Whether the second statement holds in every calm dealing in which the first one holds."""
    dealings = calm_dealings(group)
    rows = may_rows(group, dealings)
    _check_statement(rows, one_statement)
    _check_statement(rows, other_statement)
    return _brings(group, dealings, one_statement, other_statement)


def _statements(rows):
    """The sorted list of all statements."""
    return sorted([(kind, a, b) for kind in KINDS for a in rows for b in rows[a]])


def follows(group, statement):
    """The sorted list of all statements that the statement tells."""
    dealings = calm_dealings(group)
    rows = may_rows(group, dealings)
    _check_statement(rows, statement)
    return [other for other in _statements(rows) if _brings(group, dealings, statement, other)]


def _is_bare(rows, statement):
    """Whether the statement does not say what each calm dealing has anyway."""
    kind, a, b = statement
    return b != (rows[a][-1] if kind == "least" else rows[a][0])


def _stronger(rows, statement):
    """The stronger statement of a bare one, or None if there is none."""
    kind, a, b = statement
    at = rows[a].index(b) + (-1 if kind == "least" else 1)
    return (kind, a, rows[a][at]) if 0 <= at < len(rows[a]) else None


def _is_clause(failing, one, other):
    """Whether one of two bare statements holds in each dealing; `failing` tells where each of them does not."""
    return not any([index in failing[other] for index in failing[one]])


def _is_tight(rows, failing, one, other):
    """Whether a clause of these two is no clause any more when either of them becomes stronger."""
    stronger_one = _stronger(rows, one)
    stronger_other = _stronger(rows, other)
    return (stronger_one is None or not _is_clause(failing, stronger_one, other)) and (
        stronger_other is None or not _is_clause(failing, one, stronger_other))


def _book_of(group, dealings, rows):
    """The sorted list of all tight clauses of these calm dealings, whose partners stand in the rows."""
    bare = [statement for statement in _statements(rows) if _is_bare(rows, statement)]
    failing = {one: [k for k, x in enumerate(dealings) if not _is_true(group, x, one)] for one in bare}
    clauses = [(one, other) for one in bare for other in bare
               if one < other and one[1] != other[1] and _is_clause(failing, one, other)]
    return [(one, other) for one, other in clauses if _is_tight(rows, failing, one, other)]


def book(group):
    """The sorted list of all tight clauses."""
    dealings = calm_dealings(group)
    return _book_of(group, dealings, may_rows(group, dealings))


def agrees(group, x):
    """Whether any value is a calm dealing, as the book tells."""
    dealings = calm_dealings(group)
    rows = may_rows(group, dealings)
    if not takes_from(rows, x):
        return False
    return all([_is_true(group, x, one) or _is_true(group, x, other) for one, other in _book_of(group, dealings, rows)])

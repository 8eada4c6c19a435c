"""Texts: groups and dealings written as lines, and read back from them."""

from quietpairs.dealings import check_dealing, dealt
from quietpairs.errors import NoText
from quietpairs.forms import is_lot, is_name
from quietpairs.groups import MOST_PEOPLE, Group

FIRST_WORD = "people"


def _as_text(rows):
    """The rows of words as lines, each of which ends with a newline."""
    return "".join([" ".join(row) + "\n" for row in rows])


def _as_rows(text):
    """The lines of a text that is empty or ends with a newline, each as the row of what stands between its spaces."""
    return [line.split(" ") for line in text.split("\n")[:-1]]


def group_text(group):
    """The group as lines: the people, and then the wishes of each person."""
    return _as_text([[FIRST_WORD] + group.people()] + [[a + ":"] + group.wishes(a) for a in group])


def _is_first_row(row):
    """Whether the row lists the people of a group."""
    names = row[1:]
    if row[0] != FIRST_WORD or len(names) > MOST_PEOPLE:
        return False
    return is_lot(names, [name for name in names if is_name(name)])


def _is_row_of(row, a, people):
    """Whether the row lists the wishes of a."""
    return row[0] == a + ":" and is_lot(row[1:], [b for b in people if b != a])


def read_group(text):
    """The group that is written as these lines."""
    if not isinstance(text, str) or not text.endswith("\n"):
        raise NoText(0)
    rows = _as_rows(text)
    if not _is_first_row(rows[0]):
        raise NoText(1)
    people = rows[0][1:]
    for line, a in enumerate(people, start=2):
        if len(rows) < line or not _is_row_of(rows[line - 1], a, people):
            raise NoText(line)
    if len(rows) > len(people) + 1:
        raise NoText(len(people) + 2)
    return Group(tuple(people), {a: row[1:] for a, row in zip(people, rows[1:])})


def dealing_text(group, x):
    """The dealing as lines: one for each pair of partners, and one for each person who is alone."""
    check_dealing(group, x)
    return _as_text([[a] if x[a] is None else [a, x[a]] for a in sorted(x) if x[a] is None or a < x[a]])


def _is_row_of_dealing(group, row):
    """Whether the row is one person, or two persons that are open to each other, the lesser one first."""
    if len(row) == 1:
        return row[0] in group
    return tuple(row) in group and row[0] < row[1]


def read_dealing(group, text):
    """The dealing of the group that is written as these lines."""
    if not isinstance(text, str) or not (text == "" or text.endswith("\n")):
        raise NoText(0)
    rows = _as_rows(text)
    x = {}
    for line, row in enumerate(rows, start=1):
        if not _is_row_of_dealing(group, row) or any([a in x for a in row]):
            raise NoText(line)
        if line > 1 and row[0] < rows[line - 2][0]:
            raise NoText(line)
        x = dealt(x, row[0], row[1] if len(row) == 2 else None)
    if len(x) < len(group):
        raise NoText(len(rows) + 1)
    return x

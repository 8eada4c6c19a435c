"""Live groups: a group that changes deed by deed, and back."""

from quietpairs.errors import NoGroup, NoUndo
from quietpairs.groups import Group
from quietpairs.halves import half, odd


class Round:
    """A group that changes."""

    def __init__(self, group):
        self._group = group
        self._past = []
        self._known = odd(group)

    @property
    def group(self):
        """The group as it now is."""
        return self._group

    def wish(self, a, wishes):
        """From now on a has these wishes instead."""
        self._change_to(self._group.with_wishes(a, wishes))

    def come(self, name, wishes, *, places):
        """One more person comes in, at these places in the wishes of others."""
        self._change_to(self._group.joined(name, wishes, places=places))

    def leave(self, a):
        """The person a leaves."""
        self._change_to(self._group.without(a))

    def become(self, value):
        """The group becomes another one."""
        if not isinstance(value, Group):
            raise NoGroup()
        self._change_to(value)

    def undo(self):
        """Take the last deed back that was not taken back yet."""
        if not self._past:
            raise NoUndo()
        self._group = self._past.pop()

    def half(self):
        """A plain half of the group as it now is."""
        return half(self._group)

    def odd(self):
        """The sorted list of the odd lots of three or more people of the group as it now is."""
        return odd(self._group)

    def moved(self):
        """The odd lots of three or more people that went and that came since the last call."""
        known = self._known
        now = odd(self._group)
        self._known = now
        return ([lot for lot in known if lot not in now], [lot for lot in now if lot not in known])

    def tried(self, deed):
        """What the deed returns for this round, which is as it was before when the deed is over."""
        group = self._group
        # The deed changes the list of the past itself, so that a copy is kept.
        past = list(self._past)
        known = self._known
        try:
            return deed(self)
        finally:
            self._group, self._past, self._known = group, past, known

    def __len__(self):
        return len(self._past)

    def _change_to(self, group):
        """Make a deed of this group, which raised no error."""
        self._past.append(self._group)
        self._group = group

"""Contexts, which say of each variable what it is, and tokens, which remember this."""

from stepwhere.errors import Fails


class Context:
    """A context: the variables that are set in it, and their values."""

    def __init__(self, pairs=()):
        self.is_busy = False
        self._held = {}
        for variable, value in pairs:
            self._held[variable] = value

    def __getitem__(self, variable):
        if variable not in self._held:
            raise Fails("unset")
        return self._held[variable]

    def __setitem__(self, variable, value):
        self._held[variable] = value

    def __contains__(self, variable):
        return variable in self._held

    def __iter__(self):
        raise TypeError("a context is not iterated over: take its pairs()")

    def __len__(self):
        return len(self._held)

    def __eq__(self, other):
        return isinstance(other, Context) and self._held == other._held

    def drop(self, variable):
        """The variable becomes unset, whether it was set or not."""
        if variable in self._held:
            del self._held[variable]

    def pairs(self):
        """The pairs (VARIABLE, VALUE) of the variables that are set, ascending."""
        return tuple([(variable, self._held[variable]) for variable in sorted(self._held)])

    def copy(self):
        """A new context with the same values, which is not in use."""
        return Context(self.pairs())

    def is_same(self, other):
        """Whether other is this very context, not only an equal one."""
        return self is other


class Token:
    """What a variable is in a context at the moment when the token is made."""

    def __init__(self, context, variable):
        self.context = context
        self.variable = variable
        self.old = context[variable] if variable in context else None
        self.is_used = False

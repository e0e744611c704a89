"""Blocks behind which a bench or a tester is as it was."""


class Trial:
    """Puts a thing back, whose state is one value, as it was when the block began."""

    def __init__(self, thing):
        self._thing = thing
        self._before = thing._state

    def __enter__(self):
        self._before = self._thing._state
        return self._thing

    def __exit__(self, kind, value, trace):
        thing = self._thing
        thing._state = self._before

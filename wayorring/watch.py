"""Watching for a place among the events of a run."""


class Watch:
    """Waits for the atoms of a place, one after the other."""

    def __init__(self, place):
        self.progress = 0
        self._place = place

    def wanted(self, event):
        """The comparison (sign, left, right) that decides whether the event meets the next atom, or None."""
        atom = self._next_atom()
        if atom is None or atom[0] != "when" or event != ("row", atom[1]):
            return None
        return atom[2:]

    def see(self, event, truth):
        """Takes the next event. True if it met the last atom.

        truth tells whether the wanted comparison holds; it is not looked at if there is none.
        """
        atom = self._next_atom()
        if atom is None:
            return False
        if atom[0] == "when":
            meets = self.wanted(event) is not None and bool(truth)
        else:
            meets = event == atom
        if not meets:
            return False
        self.progress += 1
        return self.progress == len(self._place)

    def twin(self):
        """A copy; what one sees has no effect on the other."""
        other = Watch(self._place)
        other.progress = self.progress
        return other

    def _next_atom(self):
        """The atom that is waited for, or None if there is none."""
        return self._place[self.progress] if self.progress < len(self._place) else None

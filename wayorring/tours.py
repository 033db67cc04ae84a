"""Tours through the tree of a walk."""

from wayorring.errors import TooWide
from wayorring.systems import System

MOST_ENDS = 4096
ON = ("on",)
OVER = ("over",)


class Tour:
    """Goes through the tree from a walk's point on, depth first, token by token.

    walk and system stand at the point that the last token has led to, or at which it was an end; behind a "dead"
    token they are None. What is to come are tuples of a token and the walk and the system behind it, the next one
    last.
    """

    def __init__(self, walk):
        self.walk = walk
        self.system = System(walk.many)
        for difference in walk.differences:
            self.system.tie(difference)
        self._coming = []
        self._goes_on = True
        self._ends = 0

    def step(self):
        """The next token, or None if there is none. Raises TooWide if there are too many ends."""
        token = self._find_token()
        if token is not None and token != ON:
            self._ends += 1
            if self._ends > MOST_ENDS:
                raise TooWide("the tree has too many ends")
        return token

    def _find_token(self):
        if self._goes_on:
            self._goes_on = False
            word = self.walk.advance()
            if word == "over":
                return OVER
            if word == "met":
                return ("met", self.system.floors())
            self._branch()
        if not self._coming:
            return None
        token, self.walk, self.system = self._coming.pop()
        self._goes_on = token == ON
        return token

    def _branch(self):
        """Puts the ways of the open question before what is still to come."""
        branches = [self._branch_of(number, way) for number, way in enumerate(self.walk.ways())]
        self._coming.extend(branches[::-1])

    def _branch_of(self, number, differences):
        """A way's token, with the walk and the system behind it."""
        system = self.system.twin()
        for difference in differences:
            ring = system.tie(difference)
            if ring is not None:
                return ("dead", ring), None, None
        walk = self.walk.twin()
        walk.take(number)
        return ON, walk, system

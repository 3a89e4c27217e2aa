"""Seeking the least right placement: what is left is parted again and again, the nearest parts first."""

from leastlap.decisions import decide
from leastlap.narrowing import Narrowing
from leastlap.plans import lefts_going_on
from leastlap.ranges import with_left


class Seeker:
    """Seeks first cells of right placements with at most so many cells, lesser and lesser ones."""

    def __init__(self, problem, most):
        self.problem = problem
        self.most = most
        self.best = None

    def take(self, firsts):
        """Take a placement, and seek lesser ones from now on."""
        self.best = firsts
        self.most = self.problem.cells_of(firsts) - 1

    def seek(self, is_any_enough):
        """Go through all that is left until there is none that is less, or just any one."""
        apart = self.problem.laid_apart()
        if self.problem.cells_of(apart) <= self.most:
            self.take(apart)
        todo = [self.problem.lefts_within(self.most)]
        while todo and not (is_any_enough and self.best is not None):
            lefts = todo.pop()
            todo.extend(self.further(self.within_most(lefts)))

    def within_most(self, lefts):
        """What is left with no more cells than are still of interest."""
        within = self.problem.lefts_within(self.most)
        return {pair: lefts[pair].within(within[pair].low, within[pair].high) for pair in lefts}

    def further(self, lefts):
        """What is still to be gone through of what is left, the last of it first."""
        narrowing = Narrowing(lefts, self.problem.many)
        if narrowing.fails or self.problem.full_array(self.most) is not None:
            return []
        decision = decide(self.problem, narrowing, self.most)
        if decision.firsts is not None:
            # There may be a lesser one among the same.
            self.take(decision.firsts)
            return [narrowing.lefts]
        pair, wish = decision.pair, decision.wish
        parts = [(max(left.low - wish, wish - left.high), left.low, left)
                 for left in lefts_going_on(decision.left, decision.plan)]
        return [with_left(narrowing.lefts, pair, left) for _, _, left in sorted(parts, key=farness, reverse=True)]


def farness(part):
    """How far a part is from the distance that the other arrays would have."""
    return part[:2]


def least_firsts(problem, most):
    """The first cells of a least right placement, if it has at most so many cells, or None."""
    seeker = Seeker(problem, most)
    seeker.seek(False)
    return seeker.best


def is_enough(problem, cells):
    """Whether there is a right placement with at most so many cells."""
    seeker = Seeker(problem, cells)
    seeker.seek(True)
    return seeker.best is not None

"""Decisions: what has to be done where some distances are left, so that there is a right placement or a tree."""

from leastlap.lines import first_from
from leastlap.narrowing import common_modulus
from leastlap.plans import residues_of, stretch_plan
from leastlap.rounds import side_of
from leastlap.stretches import is_bad_throughout, stretch_of


class Decision:
    """Either the first cells of a right placement, or a pair and the plan by which what is left of it is parted.

    Of the pair there is also the distance that the others would have it have.
    """

    def __init__(self, *, firsts=None, pair=None, left=None, plan=None, wish=0):
        self.firsts = firsts
        self.pair = pair
        self.left = left
        self.plan = plan
        self.wish = wish


def distance_of(firsts, pair):
    """The distance of two arrays with some first cells."""
    return firsts[pair[0]] - firsts[pair[1]]


class Choice:
    """A pair of which bad distances are left, what is left of it, and in how many parts the good ones are."""

    def __init__(self, pair, left, stretch):
        self.pair = pair
        self.left = left
        self.stretch = stretch
        self.many = len(stretch.runs) + int(left.low < stretch.first) + int(stretch.last < left.high)


def decide(problem, narrowing, cells):
    """What has to be done for a placement within so many cells, by what is left and does not fail."""
    firsts = earliest(problem, narrowing.near)
    dead = [pair for pair in problem.bad if is_bad_throughout(problem.bad[pair], inner_left(narrowing, pair))]
    wrong = dead or problem.wrong_pairs(firsts)
    if not wrong:
        return Decision(firsts=firsts)
    choice = best_choice(problem, narrowing, wrong)
    if choice is not None:
        return part_choice(problem, choice, firsts)
    return settle(problem, narrowing, cells, firsts)


def earliest(problem, near):
    """The least first cells that all bounds allow."""
    floors = [problem.floor(at) for at in range(problem.many)]
    return [max([floor - near[other][at] for other, floor in enumerate(floors)]) for at in range(problem.many)]


def inner_left(narrowing, pair):
    """What is left of a pair by the bounds that follow, too."""
    low, high = narrowing.ends(pair)
    return narrowing.lefts[pair].within(low, high)


def best_choice(problem, narrowing, pairs):
    """The choice with the fewest parts among some pairs; None if no bad distances are left of them."""
    best = None
    for pair in pairs:
        inner = inner_left(narrowing, pair)
        stretch = stretch_of(problem.bad[pair], inner)
        if stretch is not None:
            choice = Choice(pair, inner, stretch)
            best = choice if best is None or choice.many < best.many else best
    return best


def part_choice(problem, choice, firsts):
    """The decision to part good distances from bad ones."""
    plan = stretch_plan(choice.left, choice.stretch, problem.bad[choice.pair].modulus)
    return Decision(pair=choice.pair, left=choice.left, plan=plan, wish=distance_of(firsts, choice.pair))


def settle(problem, narrowing, cells, firsts):
    """What has to be done if all that is wrong of the earliest first cells are residues."""
    for anchor in problem.anchors():
        found = anchored(problem, narrowing, anchor)
        if found is not None and problem.fits(found, cells):
            return Decision(firsts=found)
    choice = best_choice(problem, narrowing, list(problem.bad))
    modulus = common_modulus(narrowing.lefts)
    counts = [(classes_left(inner_left(narrowing, pair), modulus), pair)
              for pair, left in narrowing.lefts.items() if left.modulus % modulus != 0]
    if choice is not None and (not counts or choice.many <= min(counts)[0]):
        return part_choice(problem, choice, firsts)
    pair = min(counts)[1]
    left = narrowing.lefts[pair]
    return Decision(pair=pair, left=left, plan=residues_of(left, modulus), wish=distance_of(firsts, pair))


def classes_left(left, modulus):
    """How many residues may be told of what is left."""
    return min(modulus // left.modulus, (left.high - left.low) // left.modulus + 1)


def anchored(problem, narrowing, anchor):
    """The least first cells, that of one array being the least that it may have, which have the residues that are told.

    Only the residues of distances to this array are asked. None if that does not come to an end soon.
    """
    firsts = [problem.floor(at) for at in range(problem.many)]
    near = narrowing.near
    for _ in range(problem.many + 1):
        least = [max([first - near[other][at] for other, first in enumerate(firsts)]) for at in range(problem.many)]
        raised = [raised_to(narrowing.lefts, at, first, anchor, firsts[anchor]) for at, first in enumerate(least)]
        if raised == firsts:
            return firsts
        firsts = raised
    return None


def raised_to(lefts, at, first, anchor, base):
    """The least first cell of an array from one on, with the residue of its distance to another one."""
    if at == anchor:
        return first
    side = side_of(lefts, at, anchor)
    return first_from(first, base + side.residue, side.modulus)

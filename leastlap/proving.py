"""Proving that no right placement has so few cells: the tree of all that is parted, with covers of what is bad."""

from leastlap.decisions import decide
from leastlap.lines import first_from
from leastlap.narrowing import Narrowing
from leastlap.parts import cover_of, strands_of
from leastlap.plans import BAD, GOING_ON, NEXT, apart_from
from leastlap.ranges import with_left
from leastlap.rounds import bounds_of, broken_round, closed, is_broken, short_round, uneven_round


class Proof:
    """A tree, or what is below a part, and the pairs of which it uses what is told, as the keys of a dict."""

    def __init__(self, tree, pairs):
        self.tree = tree
        self.pairs = pairs


def pairs_of(path):
    """The pairs of a round, as the keys of a dict."""
    return {(min(path[at - 1], other), max(path[at - 1], other)): True for at, other in enumerate(path)}


class Prover:
    """Makes trees against a size that is not enough, although it is for each array alone."""

    def __init__(self, problem, most):
        self.problem = problem
        self.most = most
        self.strands = {}

    def proof(self, lefts):
        """The proof that no right placement has only distances that are left."""
        narrowing = Narrowing(lefts, self.problem.many)
        if narrowing.fails:
            return self.narrowed(lefts, narrowing.steps)
        decision = decide(self.problem, narrowing, self.most)
        pair, left, plan = decision.pair, decision.left, decision.plan
        if not left.is_like(lefts[pair]):
            plan = apart_from(lefts[pair], (left.low, left.high), (left.modulus, left.residue), plan)
        return self.parted(lefts, pair, plan, None)

    def narrowed(self, lefts, steps):
        """The proof by the steps of a narrowing that fails, but for those of which nothing is used."""
        states = [lefts]
        for pair, ends, grain in steps:
            left = states[-1][pair].within(ends[0], ends[1]).alike(grain[0], grain[1])
            states.append(with_left(states[-1], pair, left))
        proof = self.leaf(states[-1])
        for at in range(len(steps) - 1, -1, -1):
            pair, ends, grain = steps[at]
            if pair in proof.pairs:
                plan = apart_from(states[at][pair], ends, grain, NEXT)
                proof = self.parted(states[at], pair, plan, proof)
        return proof

    def leaf(self, lefts):
        """The proof without parts."""
        names = self.problem.names
        for one, other in lefts:
            if lefts[one, other].is_empty():
                return Proof(("none", names[one], names[other]), {(one, other): True})
        bounds = bounds_of(lefts, self.problem.many)
        if is_broken(closed(bounds)):
            return self.closing("round", broken_round(bounds))
        return self.closing("residues", uneven_round(lefts, self.problem.many))

    def closing(self, kind, path):
        """The proof by a round of arrays that cannot go together."""
        return Proof((kind, tuple([self.problem.names[at] for at in path])), pairs_of(path))

    def parted(self, lefts, pair, plan, following):
        """The proof in which a pair is parted by a plan, or one in which nothing that is told of the pair is used."""
        rows = []
        used = {pair: True}
        for rest, row in enumerate(plan.rows):
            left = lefts[pair].alike(plan.modulus, rest)
            parts = []
            for low, high, kind in [] if left.is_empty() else row:
                if kind == BAD:
                    proof = Proof(("cover", self.cover(pair, low, high, rest)), {pair: True})
                elif kind == NEXT:
                    proof = following
                else:
                    proof = self.below(with_left(lefts, pair, left.within(low, high)), pair, kind)
                if pair not in proof.pairs:
                    return proof
                for other in proof.pairs:
                    used[other] = True
                parts.append((low, high, proof.tree))
            rows.append(tuple(parts))
        names = self.problem.names
        return Proof(("parts", names[pair[0]], names[pair[1]], plan.modulus, tuple(rows)), used)

    def below(self, lefts, pair, kind):
        """The proof for a part that is parted again, or in which more has to be told."""
        if lefts[pair].is_empty():
            return self.leaf(lefts)
        if kind != GOING_ON:
            return self.parted(lefts, pair, kind, None)
        # Most parts end here, and a full narrowing would take its time to find it.
        found = short_round(lefts, pair, self.problem.many)
        return self.proof(lefts) if found is None else self.closing(found[0], found[1])

    def cover(self, pair, low, high, rest):
        """The cover of the distances of a pair with a residue by the modulus of the bad ones, which all of them are."""
        modulus = self.problem.bad[pair].modulus
        if pair not in self.strands:
            self.strands[pair] = strands_of(self.problem.kept[pair], modulus)
        last = high - (high - rest) % modulus
        return cover_of(self.strands[pair][rest], first_from(low, rest, modulus), last, modulus)


def tree_of(problem, cells):
    """A tree against a size that is not enough."""
    full = problem.full_array(cells)
    if full is not None:
        return "full", full
    return Prover(problem, cells).proof(problem.lefts_within(cells)).tree

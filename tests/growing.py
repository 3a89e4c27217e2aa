"""Trees that are grown at random, by the plain reading of what is left; each one holds."""

from itertools import permutations

from tests.conflicts import offset_of
from tests.holding import TreeReader
from tests.walking import walked_events


def single_families(schedule, layouts):
    """For each pair of arrays and each bad distance a family of one conflict."""
    program, layouts, found, since, writes = schedule.program, dict(layouts), {}, {}, []
    for (kind, at), y in walked_events(program.arrays, program.loops, program.outputs, schedule.walks):
        if kind == "write":
            since[y] = len(writes)
            writes.append((at, y))
            continue
        for write, x in writes[since[y] + 1:]:
            one, other = sorted((x[0], y[0]))
            if one != other:
                mine, its = (x, y) if x[0] == one else (y, x)
                distance = offset_of(layouts[other], its[1]) - offset_of(layouts[one], mine[1])
                found.setdefault((one, other), {})[distance] = (write, at, 0, 0, 0)
    return found


class Grower:
    def __init__(self, rng, schedule, layouts, size, told):
        self.rng = rng
        self.reader = TreeReader(schedule, layouts, size, told)
        self.families = single_families(schedule, layouts)

    def tree(self, depth):
        """A tree with at most so many parts in parts, or None if none is found."""
        return self.grown(self.reader.at_first(), depth)

    def leaves(self, told):
        names = sorted(self.reader.ranges)
        found = [("full", name) for name in names] + [("none",) + pair for pair in self.reader.readers]
        for many in range(2, len(names) + 1):
            for row in permutations(names, many):
                found += [("round", row), ("residues", row)]
        return [leaf for leaf in found if self.reader.is_tree(leaf, told)]

    def grown(self, told, depth):
        leaves = self.leaves(told)
        if leaves and self.rng.random() < 0.8:
            kind = self.rng.choice(sorted({leaf[0] for leaf in leaves}))
            return self.rng.choice([leaf for leaf in leaves if leaf[0] == kind])
        pairs = [pair for pair in self.reader.readers if self.reader.left(told, *pair)]
        if depth == 0 or not pairs:
            return leaves[0] if leaves else None
        one, other = self.rng.choice(pairs)
        modulus, left, rows = self.rng.choice((1, 1, 2, 2, 3, 4)), self.reader.left(told, one, other), []
        for rest in range(modulus):
            row = self.row(told, (one, other), modulus, rest, [k for k in left if k % modulus == rest], depth)
            if row is None:
                return None
            rows.append(row)
        return "parts", one, other, modulus, tuple(rows)

    def row(self, told, pair, modulus, rest, left, depth):
        if not left:
            return ()
        low, end, found = left[0] - self.rng.randint(0, 2), left[-1] + self.rng.randint(0, 2), []
        while low <= end:
            high = self.rng.choice(list(range(low, end + 1)) + [end])
            below = self.below(told, pair, modulus, rest, low, high, depth)
            if below is None:
                return None
            found.append((low, high, below))
            low = high + 1
        return tuple(found)

    def below(self, told, pair, modulus, rest, low, high, depth):
        bad, distances = self.families.get(pair, {}), [k for k in range(low, high + 1) if k % modulus == rest]
        if all(k in bad for k in distances) and self.rng.random() < 0.9:
            return "cover", tuple(bad[k] for k in distances)
        least, most, residues = told[pair]
        inside = max(low, least), min(high, most), residues + ((modulus, rest),)
        return self.grown({**told, pair: inside}, depth - 1)

"""Plans: how the distances that are left of two arrays are parted, so that what is told rules out all wrong ones."""

from math import lcm

from leastlap.lines import first_from

# What is done with a part that is not parted again: it has a cover, or more has to be told of it or of other pairs, or
# this has been done already.
BAD = "bad"
GOING_ON = "going on"
NEXT = "next"


class Plan:
    """For each residue modulo some number the parts (low, high, below), below being a plan, BAD or GOING_ON."""

    def __init__(self, modulus, rows):
        self.modulus = modulus
        self.rows = rows


def residues_of(left, modulus):
    """The plan with a part for each residue."""
    return Plan(modulus, [[(left.low, left.high, GOING_ON)] for _ in range(modulus)])


def apart_from(left, ends, grain, kind):
    """The plan that tells an interval and a residue (modulus, rest) of what is left, with something below that part."""
    low, high = ends
    modulus, rest = least_modulus(left, grain)
    rows = []
    for at in range(modulus):
        inner = in_place(low, high, modulus, kind) if at == rest else [(low, high, GOING_ON)]
        rows.append(without_gaps([(left.low, low - 1, GOING_ON)] + inner + [(high + 1, left.high, GOING_ON)]))
    return Plan(modulus, rows)


def in_place(low, high, modulus, kind):
    """The parts of a plan in place of one part that has this plan below it, if neither tells a residue."""
    if modulus == 1 and isinstance(kind, Plan) and kind.modulus == 1:
        return kind.rows[0]
    return [(low, high, kind)]


def without_gaps(parts):
    """Those of some parts that have a distance."""
    return [part for part in parts if part[0] <= part[1]]


def least_modulus(left, grain):
    """The least modulus that tells as much as another one of what is left, with the residue."""
    modulus, rest = grain
    both = lcm(left.modulus, modulus)
    least = [step for step in range(1, modulus + 1) if modulus % step == 0 and lcm(left.modulus, step) == both][0]
    return least, rest % least


def stretch_plan(left, stretch, grain):
    """The plan that parts good distances from bad ones in a stretch of what is left, the bad ones told by a modulus."""
    inner = in_place(stretch.first, stretch.last, 1, inner_plan(stretch, grain))
    return Plan(1, [without_gaps([(left.low, stretch.first - 1, GOING_ON)] + inner
                                 + [(stretch.last + 1, left.high, GOING_ON)])])


def inner_plan(stretch, grain):
    """What is done from the first to the last bad distance of a stretch."""
    if not stretch.runs:
        return bad_plan(stretch.first, stretch.last, 1, grain)
    rows = []
    for rest in range(stretch.step):
        runs = [run for run in stretch.runs if run[0] % stretch.step == rest]
        rows.append(row_plan(runs, stretch, rest, grain))
    return Plan(stretch.step, rows)


def row_plan(runs, stretch, rest, grain):
    """The parts of the distances of a stretch with a residue, by the runs of the good ones."""
    step = stretch.step
    begin = first_from(stretch.first, rest, step)
    found = []
    for low, high in runs:
        if begin < low:
            found.append((begin, low - 1, bad_plan(begin, low - 1, step, grain)))
        found.append((low, high + step - 1, GOING_ON))
        begin = high + step
    if begin <= stretch.last:
        found.append((begin, stretch.last, bad_plan(begin, stretch.last, step, grain)))
    return found


def bad_plan(low, high, step, grain):
    """What is done with bad distances that are told modulo a step."""
    return BAD if step == grain else Plan(grain, [[(low, high, BAD)] for _ in range(grain)])


def lefts_going_on(left, plan):
    """What is left of the two arrays in each part of a plan in which something is left and more has to be told."""
    found = []
    for rest, row in enumerate(plan.rows):
        among = left.alike(plan.modulus, rest)
        for low, high, below in row:
            inside = among.within(low, high)
            if not inside.is_empty() and below != BAD:
                found.extend([inside] if below == GOING_ON else lefts_going_on(inside, below))
    return found

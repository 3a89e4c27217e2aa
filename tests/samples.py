"""The examples of the document, and random programs of few iterations."""

from leastlap.placements import Placement
from leastlap.programs import Program
from leastlap.schedules import Schedule

from tests.walking import walked_twice, walked_unwritten

MOST = 10 ** 18
NINETEEN = 10 ** 19 - 1

TAPS = ("B", 1, 0, (("A", 1, 0), ("A", 1, 1), ("A", 1, 2)))
TWICE = (("C", 2, 0, (("B", 1, 0),)), ("C", 2, 1, (("B", 1, 0),)))
ROW_PARTS = ((("A", 12), ("B", 10), ("C", 20)), ((10, (TAPS,)), (10, TWICE)), ("C",))
ROW = Program(*ROW_PARTS)
PLAIN = Schedule.plain(ROW)
BACK = PLAIN.with_walk(0, "backward", 1)
FOUR = PLAIN.with_walk(1, "forward", 4)
TIGHT = Placement(ROW, ("C", 0, "up"), ("A", 8, "up"), ("B", 10, "up"))
FIRST = (1, (("T", 1, 0, ()), ("X", 1, 0, ())))
THEN = (5, (("Z", 1, 0, (("T", 1, 0), ("X", 3, 0))), ("T", 1, 1, (("A", 1, 0),)), ("X", 3, 3, (("A", 1, 0),))))
STRIP_PARTS = ((("A", 5), ("T", 6), ("X", 16), ("Z", 5)), (FIRST, THEN), ("Z",))

# Values that are no integers, no names, no tuples of any kind that is asked for.
JUNK = (None, True, False, -1, 10 ** 40 - 1, 1 - 10 ** 40, "", "a b", "\n", "ABCDEFGHI", "A1", (), ((),), [], {}, {"A": 1},
        ("A",), ("A", 1), [("A", 1)], ((("A", 1),),), "x" * 4000, ("ring", 3), ROW, PLAIN, TIGHT)


def schedule_of(arrays, loops, outputs=(), walks=None):
    """The schedule of a program with these parts, the sequential run if no walks are told."""
    return Schedule(Program(arrays, loops, outputs), walks or (("forward", 1),) * len(loops))


def deep_value(depth):
    """A value of many levels."""
    found = None
    for level in range(depth):
        found = (found,) if level % 3 == 0 else [found] if level % 3 == 1 else {"k": found}
    return found


def fault_of(make, *arguments):
    """The name of the error that a call raises, with its attributes in the order of its parameters, or None."""
    try:
        make(*arguments)
    except Exception as error:
        names = {"NoProgram": ("part",), "Outside": ("place", "i"), "Twice": ("write",), "Unwritten": ("use",),
                 "Late": ("use",)}.get(error.__class__.__name__, ())
        return (error.__class__.__name__,) + tuple(getattr(error, name) for name in names)
    return None


def random_access(rng, names, steps):
    return rng.choice(names), rng.choice(steps), rng.randint(-4, 6)


def random_statement(rng, count, names):
    name, c, d = random_access(rng, names, (-3, -2, -1, -1, 1, 1, 1, 2, 3))
    if count == 1 and rng.random() < 0.5:
        c = 0
    reads = [random_access(rng, names, (-3, -2, -1, 0, 1, 1, 1, 2, 3)) for _ in range(rng.choice((0, 1, 1, 2, 3)))]
    if reads and rng.random() < 0.4:
        reads[0] = (name,) + reads[0][1:]
    return name, c, d, tuple(reads)


def random_loops(rng, names, most):
    """Loops of few iterations, most of which write nothing twice and use nothing unwritten."""
    loops = []
    left = 8
    for _ in range(rng.randint(1, 4)):
        if left == 0:
            break
        count = rng.randint(1, most)
        statements = []
        for _ in range(rng.randint(1, min(left, 3))):
            for _ in range(30):
                statement = random_statement(rng, count, names)
                tried = tuple(loops) + ((count, tuple(statements) + (statement,)),)
                arrays = tuple((name, 1) for name in names)
                if walked_twice(tried) is None and walked_unwritten(arrays, tried, ()) is None:
                    break
            statements.append(statement)
            left -= 1
        loops.append((count, tuple(statements)))
    return tuple(loops)


def random_recurrences(rng, names, most):
    """A loop that reads what it wrote some iterations ago, behind one that writes the elements that this begins with."""
    names = rng.sample(names, rng.randint(1, min(len(names), 3)))
    ahead = rng.randint(1, 6)
    targets = [(name, rng.choice((-3, -2, -1, 1, 1, 2, 3)), rng.randint(-3, 3)) for name in names]
    first = tuple([(name, c, d - c * ahead, ()) for name, c, d in targets])
    count = rng.randint(1, most)
    statements = []
    for at, target in enumerate(targets):
        for _ in range(30):
            reads = []
            for _ in range(rng.randint(1, 3)):
                name, c, d = rng.choice(targets)
                read = (name, c, d - c * rng.randint(0, ahead))
                reads.append(read if rng.random() < 0.6 else (name, rng.randint(-3, 3), d + rng.randint(-6, 6)))
            tried = (ahead, first), (count, tuple(statements) + (target + (tuple(reads),),) + tuple(
                [other + ((),) for other in targets[at + 1:]]))
            if walked_unwritten((), tried, ()) is None:
                break
        statements.append(target + (tuple(reads),))
    return (ahead, first), (count, tuple(statements))


def indices_of(loops, name):
    """All indices of an array that are written or read."""
    found = [0]
    for count, statements in loops:
        for statement in statements:
            for other, c, d in [statement[:3]] + list(statement[3]):
                if other == name:
                    found += [d, c * (count - 1) + d]
    return found


def shifted(loops, shifts):
    """The loops with all d greater by a number for each array."""
    return tuple([
        (count, tuple([
            (name, c, d + shifts[name], tuple([(other, k, e + shifts[other]) for other, k, e in reads]))
            for name, c, d, reads in statements]))
        for count, statements in loops])


def random_parts(rng, most=7):
    """The parts of a program; in a part of the cases it has a fault."""
    names = sorted(rng.sample(["A", "B", "a", "Xy", "Zoo", "loop", "arrays", "outputs", "ring", "up"], rng.randint(1, 6)))
    make = random_loops if rng.random() < 0.6 else random_recurrences
    loops = make(rng, names, most)
    shifts = {name: -min(indices_of(loops, name)) for name in names}
    loops = shifted(loops, shifts)
    sizes = {name: max(indices_of(loops, name)) + 1 for name in names}
    if rng.random() < 0.2:
        name = rng.choice(names)
        sizes[name] = max(1, sizes[name] + rng.choice((-1, 1)))
    if rng.random() < 0.2:
        changes = {name: rng.choice((0, 0, 0, -1, 1)) for name in names}
        loops = shifted(loops, changes)
    arrays = tuple([(name, sizes[name]) for name in names])
    if walked_unwritten(arrays, loops, ()) is None and rng.random() < 0.7:
        outputs = [name for name in names if walked_unwritten(arrays, loops, (name,)) is None]
    else:
        outputs = names
    return arrays, loops, tuple(sorted(rng.sample(outputs, rng.randint(0, len(outputs)))))


def random_walks(rng, loops):
    return tuple([(rng.choice(("forward", "backward")), rng.choice((1, 2, 4))) for _ in loops])

"""Random programs of any length, with all strides, of up to eight statements with three reads."""

from leastlap.errors import Late, Twice, Unwritten
from leastlap.programs import Program
from leastlap.schedules import Schedule

from tests.samples import indices_of, shifted


def placed(loops):
    """The arrays that loops need, and the loops with all indices from 0 on."""
    names = sorted({statement[0] for _, statements in loops for statement in statements}
                   | {read[0] for _, statements in loops for statement in statements for read in statement[3]})
    loops = shifted(loops, {name: -min(indices_of(loops, name)) for name in names})
    return tuple((name, max(indices_of(loops, name)) + 1) for name in names), loops


def with_outputs(rng, arrays, loops):
    """The program, some of the arrays that are written whole being outputs."""
    outputs = [name for name, _ in arrays if rng.random() < 0.6]
    while True:
        try:
            return Program(arrays, loops, tuple(outputs))
        except Unwritten as error:
            if error.use[0] not in outputs:
                raise
            outputs.remove(error.use[0])


def lagging_loops(rng, count):
    """Loops that write the beginnings of arrays, one that goes on, by several statements for an array, and a last one.

    What is read was written some iterations ago.
    """
    ahead = rng.choice((1, 2, 5, 12, max(1, count // 7)))
    layout = rng.choice(((("A", 3), ("B", 3)), (("A", 2), ("B", 2)), (("A", 3), ("B", 1), ("C", 1)), (("A", 1), ("B", 1)),
                         (("A", 1), ("B", 1), ("C", 1), ("D", 1)), (("A", 2), ("B", 1)), (("A", 3), ("B", 1))))
    signs = {name: rng.choice((1, -1)) for name, _ in layout}
    loops = []
    for wide in sorted({wide for _, wide in layout}):
        first = tuple((name, signs[name], -signs[name] * wide * ahead, ()) for name, each in layout if each == wide)
        loops.append((wide * ahead, first))

    def read():
        name, wide = rng.choice(layout)
        if rng.random() < 0.75:
            return name, signs[name] * wide, -signs[name] * rng.randint(0, min(wide * ahead, 40))
        step = signs[name] if rng.random() < 0.5 else rng.randint(-3, 3)
        return name, step, -signs[name] * rng.randint(0, wide * ahead)

    mains = [(name, signs[name] * wide, signs[name] * at) for name, wide in layout for at in range(wide)]
    rng.shuffle(mains)
    left = 8 - sum(len(statements) for _, statements in loops)
    body = [main + (tuple(read() for _ in range(3)),) for main in mains[:left]]
    loops.append((count, tuple(body)))
    if left > len(body) and len(loops) < 4:
        loops.append((rng.choice((count, count // 2 + 1, count // 3 + 1)),
                      (("F", rng.choice((1, 2, -3)), 0, tuple(read() for _ in range(3))),)))
    return tuple(loops)


def prompt_loops(rng, count):
    """A loop of eight statements that read what statements ahead of them wrote in the same iteration, with all strides."""
    names = rng.choice(("AB", "AB", "ABC", "A"))
    ends = {name: 0 for name in names}
    body, done = [], []
    for at in range(8):
        name = names[at % len(names)] if rng.random() < 0.8 else rng.choice(names)
        c = rng.choice((1, 2, 3, -1, -2, -3))
        span = abs(c) * (count - 1) + 1
        d = ends[name] + (0 if c > 0 else span - 1)
        ends[name] += span
        body.append((name, c, d, tuple(rng.choice(done) for _ in range(3 if done else 0))))
        done.append((name, c, d))
    return ((count, tuple(body)),)


def wedge_loops(count, wide, step, c, ahead=0):
    """Y goes on by wide elements in each iteration and is read by step; X is written in between, by c.

    So what is between the write of an element of Y and its use gets more and more, or less and less.
    """
    main = tuple(("Y", wide, ahead + at, ()) for at in range(wide)) + (("X", c, 0, ()), ("Z", 1, 0, (("Y", step, 0),)))
    if ahead == 0:
        return ((count, main),)
    return (ahead, (("Y", 1, 0, ()),)), (count, main)


def random_wedge(rng, count):
    wide, step, c = rng.choice((1, 2, 3)), rng.choice((0, 1, 2, 3)), rng.choice((-3, -2, -1, 1, 2, 3))
    loops = wedge_loops(count, wide, step, c, 0 if step <= wide else (step - wide) * count)
    main = list(loops[-1][1])
    rng.shuffle(main)
    return loops[:-1] + ((count, tuple(main)),)


def random_long(rng, count):
    """A program and a schedule of it."""
    while True:
        make = rng.choice((lagging_loops,) * 7 + (prompt_loops, random_wedge, random_wedge))
        arrays, loops = placed(make(rng, count))
        try:
            program = with_outputs(rng, arrays, loops)
        except (Twice, Unwritten):
            continue
        for _ in range(20):
            walks = tuple((rng.choice(("forward", "backward")), rng.choice((1, 2, 4, 4))) for _ in loops)
            try:
                return program, Schedule(program, walks)
            except Late:
                continue

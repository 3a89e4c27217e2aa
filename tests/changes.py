"""Values changed in some places: parts replaced, named otherwise, left out, turned about or repeated."""

from tests.samples import JUNK


def paths_of(thing, path=()):
    """The paths to all parts of nested tuples, their own one first."""
    yield path
    if isinstance(thing, tuple):
        for at, part in enumerate(thing):
            yield from paths_of(part, path + (at,))


def part_at(thing, path):
    for at in path:
        thing = thing[at]
    return thing


def replaced(thing, path, part):
    """The value with another part at a path."""
    if not path:
        return part
    return thing[:path[0]] + (replaced(thing[path[0]], path[1:], part),) + thing[path[0] + 1:]


def another_part(rng, thing, paths, part):
    """Something else for a part of a value."""
    kind = rng.random()
    if type(part) is int and kind < 0.8:
        return rng.choice((part + 1, part - 1, -part, part * 2, part + rng.randint(-9, 9), 0, True, 10 ** 39))
    if isinstance(part, str) and kind < 0.7:
        return rng.choice(("A", "B", "C", "D", "X", "Y", "full", "none", "round", "residues", "parts", "cover", part.lower()))
    if isinstance(part, tuple) and part and kind < 0.7:
        at = rng.randrange(len(part))
        return rng.choice((part[:at] + part[at + 1:], part[::-1], part[:at + 1] + part[at:], part + part, list(part),
                           part[at:] + part[:at], ()))
    if kind < 0.9:
        return part_at(thing, rng.choice(paths))
    return rng.choice(JUNK)


def changed(rng, thing):
    """The value changed in one place, or in a few ones."""
    for _ in range(rng.choice((1, 1, 1, 2, 3))):
        paths = list(paths_of(thing))
        path = rng.choice(paths)
        thing = replaced(thing, path, another_part(rng, thing, paths, part_at(thing, path)))
        if not isinstance(thing, tuple):
            break
    return thing

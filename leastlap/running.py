"""What each use finds, iteration by iteration and cell by cell."""


def accessed(program, place, number):
    """The element of a write or a use."""
    return (place, number) if isinstance(place, str) else program.element(place, number)


def finds(schedule, placement):
    """Yield (use, element, found) for each use in order: its own element, and the one that it finds."""
    held = {}
    for kind, (place, number) in schedule.events():
        element = accessed(schedule.program, place, number)
        cell = placement.cell(element)
        if kind == "write":
            held[cell] = element
        else:
            yield (place, number), element, held[cell]

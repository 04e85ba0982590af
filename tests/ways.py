"""All ways of rules for writing, each one followed link by link as [15] tells it."""

from lumplooks.books import step_seats


def first_seats(book, letter):
    found = []
    for name in book.names():
        told = [record for record in book.records() if record[0] == "given" and record[1] == name
                or record[0] == "mixed" and name in record[1]]
        numbers = [number for record in told for number in (record[2] if record[0] == "mixed" else [record[2]])]
        if not told or any(number in letter for number in numbers):
            found.append(name)
    return found


def all_ways(book, letter, order):
    """The pairs (seat, number of links) of all ways, each way followed link by link."""
    steps = book.steps()
    stops = [
        (at, step[2]) for at, step in enumerate(steps)
        if order == "stopped" and step[0] == "look" and step[3] not in letter
    ]

    def is_free(name, low, high):
        return not any(low < at < high for at, seat in stops if seat == name)

    seen = set()
    rows = [(name, -1, 0) for name in first_seats(book, letter)]
    while rows:
        way = rows.pop()
        # No seat of these small books is reached only by so many links.
        if way in seen or way[2] > 21:
            continue
        seen.add(way)
        name, last, many = way
        for at, step in enumerate(steps):
            if step[0] == "look" or name not in step_seats(step):
                continue
            if order != "any" and not (at > last and is_free(name, last, at)):
                continue
            rows += [(other, -1 if order == "any" else at, many + 1) for other in step_seats(step) if other != name]
    return {(name, many) for name, last, many in seen if order == "any" or is_free(name, last, len(steps))}


def written(book, ways, links):
    """The things at which ways with at most so many links end."""
    ends = {name for name, many in ways if links is None or many <= links}
    return [name for name in book.names("thing") if name in ends]

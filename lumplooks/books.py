"""Books: seats and records, and the steps that follow from the records."""

from lumplooks.errors import Clash, DuplicateName, DuplicateNumber, InvalidNumber, InvalidRecord, InvalidSeat
from lumplooks.errors import TooMany, UnknownName
from lumplooks.numbers import is_list, is_name, is_number
from lumplooks.seats import Peg, Thing

LATEST = 1000000


class Book:
    """Some seats and what is told of their parts. A book never changes."""

    MOST_SEATS = 24
    MOST_RECORDS = 120

    def __init__(self, seats=(), records=()):
        check_seats(seats)
        self._seats = list(seats)
        self._by_name = {seat.label: seat for seat in seats}
        check_records(records, self._by_name)
        self._records = list(records)
        self._steps = steps_of(list(self._by_name), self._records)

    def seats(self):
        """The list of the seats."""
        return list(self._seats)

    def records(self):
        """The list of the records."""
        return list(self._records)

    def names(self, *kinds):
        """The names of the seats of the given kinds, of all without kinds."""
        return [name for name, seat in self._by_name.items() if not kinds or seat.KIND in kinds]

    def seat(self, name):
        """The seat with this name."""
        if name not in self:
            raise UnknownName(name)
        return self._by_name[name]

    def steps(self):
        """The list of the swaps, looks and meetings, in the order of time."""
        return list(self._steps)

    def with_record(self, record):
        """A book with one record more at the end."""
        return Book(self._seats, [*self._records, record])

    def without(self, index):
        """A book without the record with this index."""
        if not is_number(index, 0, len(self._records) - 1):
            raise InvalidNumber(index)
        return Book(self._seats, [record for at, record in enumerate(self._records) if at != index])

    def since(self, hour):
        """A book without the swaps and looks of earlier hours."""
        if not is_hour(hour):
            raise InvalidNumber(hour)
        return Book(self._seats, [record for record in self._records if not is_event(record) or record[1] >= hour])

    def __contains__(self, name):
        return isinstance(name, str) and name in self._by_name

    def __len__(self):
        return len(self._seats)

    def __eq__(self, other):
        return isinstance(other, Book) and self._seats == other._seats and self._records == other._records

    def __repr__(self):
        return f"Book({len(self._seats)} seats, {len(self._records)} records)"


def check_seats(seats):
    """Raise the first error that applies to any value as the seats of a book."""
    if not is_list(seats):
        raise InvalidSeat(0)
    for at, seat in enumerate(seats):
        if not isinstance(seat, (Thing, Peg)):
            raise InvalidSeat(at)
    name = first_again([seat.label for seat in seats])
    if name is not None:
        raise DuplicateName(name)
    number = first_again([seat.number for seat in seats if isinstance(seat, Thing)])
    if number is not None:
        raise DuplicateNumber(number)
    if len(seats) > Book.MOST_SEATS:
        raise TooMany(Book.MOST_SEATS)


def first_again(values):
    """The first name or number that occurs earlier, too, None if there is none."""
    seen = set()
    for value in values:
        if value in seen:
            return value
        seen.add(value)
    return None


def check_records(records, seats):
    """Raise the first error that applies to any value as the records of a book with these seats, by name."""
    if not is_list(records):
        raise InvalidRecord(0)
    for at, record in enumerate(records):
        if not is_record(record, seats):
            raise InvalidRecord(at)
    at = first_clash(records)
    if at is not None:
        raise Clash(at)
    if len(records) > Book.MOST_RECORDS:
        raise TooMany(Book.MOST_RECORDS)


def is_hour(value):
    """Whether any value is an hour."""
    return is_number(value, 0, LATEST)


def is_seat(value, seats):
    """Whether any value is the name of one of the seats."""
    return isinstance(value, str) and value in seats


def is_given(items, seats):
    """Whether these are the items of a record that gives a seat its part at the beginning."""
    return len(items) == 2 and is_seat(items[0], seats) and is_number(items[1])


def is_mixed(items, seats):
    """Whether these are the items of a record of several seats that had some parts at the beginning."""
    if len(items) != 2 or not isinstance(items[0], tuple) or not isinstance(items[1], tuple):
        return False
    names, numbers = items
    if len(names) < 2 or len(names) != len(numbers) or not all([is_seat(name, seats) for name in names]):
        return False
    return first_again(names) is None and all([is_number(number) for number in numbers])


def is_stay(items, seats):
    """Whether these are the items of a record of a seat in a shop."""
    if len(items) != 4 or not is_seat(items[0], seats) or not is_name(items[1]):
        return False
    return is_hour(items[2]) and is_hour(items[3]) and items[2] < items[3]


def is_swap(items, seats):
    """Whether these are the items of a record of two seats that exchanged their parts."""
    if len(items) != 3 or not is_hour(items[0]):
        return False
    return is_seat(items[1], seats) and is_seat(items[2], seats) and items[1] != items[2]


def is_look(items, seats):
    """Whether these are the items of a record of a look at a thing."""
    if len(items) != 3 or not is_hour(items[0]) or not is_seat(items[1], seats):
        return False
    return seats[items[1]].IS_LOOKED_AT and is_number(items[2])


CHECKS = {"given": is_given, "mixed": is_mixed, "stay": is_stay, "swap": is_swap, "look": is_look}


def is_record(value, seats):
    """Whether any value is a record by itself, of these seats."""
    if not isinstance(value, tuple) or len(value) == 0 or not isinstance(value[0], str) or value[0] not in CHECKS:
        return False
    check = CHECKS[value[0]]
    return check(value[1:], seats)


def told_seats(record):
    """The names of the seats of which a record tells what they had at the beginning."""
    if record[0] == "given":
        return [record[1]]
    return list(record[1]) if record[0] == "mixed" else []


def first_clash(records):
    """The index of the first record that does not go together with those before it, None if there is none."""
    told = set()
    stays = {}
    for at, record in enumerate(records):
        for name in told_seats(record):
            if name in told:
                return at
            told.add(name)
        if record[0] == "stay":
            start, end = record[3], record[4]
            others = stays.setdefault(record[1], [])
            if any([start < other_end and other_start < end for other_start, other_end in others]):
                return at
            others.append((start, end))
    return None


def is_event(record):
    """Whether a record is of one hour: a swap or a look."""
    return record[0] in ("swap", "look")


def steps_of(names, records):
    """The steps of a book with seats of these names."""
    events = events_by_hour(records)
    cuts = cuts_of(events, records)
    meetings = meetings_by_hour(cuts, names, records)
    steps = []
    for hour in cuts:
        steps.extend(events.get(hour, []))
        steps.extend(meetings.get(hour, []))
    return steps


def events_by_hour(records):
    """For each hour its swaps and looks."""
    events = {}
    for at, record in enumerate(records):
        if is_event(record):
            events.setdefault(record[1], []).append((record[0], at, record[2], record[3]))
    return events


def cuts_of(events, records):
    """The hours between which nothing but meetings can happen, ascending."""
    hours = list(events)
    for record in records:
        if record[0] == "stay":
            hours.extend([record[3], record[4]])
    return sorted(set(hours))


def meetings_by_hour(cuts, names, records):
    """For each cut the meetings from there to the next one, if there are stays."""
    meetings = {}
    shops = shops_by_hour(cuts, names, records)
    for start, end in zip(cuts, cuts[1:]):
        inside = shops.get(start, {})
        meetings[start] = [
            ("meeting", shop, start, end, tuple(inside[shop])) for shop in sorted(inside) if len(inside[shop]) > 1
        ]
    return meetings


def shops_by_hour(cuts, names, records):
    """For each cut and shop the names of the seats that stay there until the next one, in the order of the book."""
    stays = {name: [] for name in names}
    for record in records:
        if record[0] == "stay":
            stays[record[1]].append(record)
    places = {hour: place for place, hour in enumerate(cuts)}
    shops = {}
    for name in names:
        for record in stays[name]:
            for hour in cuts[places[record[3]]:places[record[4]]]:
                shops.setdefault(hour, {}).setdefault(record[2], []).append(name)
    return shops


def step_seats(step):
    """The names of the seats that stand in a step."""
    if step[0] == "meeting":
        return list(step[4])
    return [step[2], step[3]] if step[0] == "swap" else [step[2]]

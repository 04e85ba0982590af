"""Books for several tests, and all their stories: found by making each next state, as [6] to [9] tell it."""

from itertools import combinations

from lumplooks.books import Book
from lumplooks.errors import LumpError
from lumplooks.letters import Letter
from lumplooks.seats import Peg, Thing

NAMES = ["a", "b", "c", "d", "e", "f", "g", "h"]
LETTER = Letter((7, 8))


def random_seats(chance, many):
    names = chance.sample(NAMES, many)
    return [Thing(name, at) if chance.random() < 0.7 else Peg(name) for at, name in enumerate(names)]


# How often records of each kind are tried: many meetings, or many records that can be false.
STAYS = ("given", "mixed", "swap", "look", *("stay",) * 6)
LOOKS = ("given", "given", "mixed", "swap", "swap", "swap", "look", "look", "look", "look", "stay")


def random_record(chance, seats, words=STAYS):
    """A record of some seats, perhaps a wrong one; the numbers 7 and 8 are those of LETTER."""
    names = [seat.label for seat in seats]
    word = chance.choice(words)
    number = chance.randint(5, 9)
    hour = chance.randint(0, 6)
    if word == "given":
        return word, chance.choice(names), number
    if word == "mixed":
        some = chance.sample(names, chance.randint(1, len(names)))
        return word, tuple(some), tuple(chance.randint(5, 9) for name in some)
    if word == "stay":
        return word, chance.choice(names), chance.choice(["hall", "hall", "yard"]), hour, hour + chance.randint(1, 4)
    if word == "swap":
        return word, hour, chance.choice(names), chance.choice(names)
    return word, hour, chance.choice(names), number


def random_book(chance, most_seats, most_records, words=STAYS):
    """A book with up to so many seats and records."""
    book = Book(random_seats(chance, chance.randint(1, most_seats)))
    for _ in range(chance.randint(0, most_records)):
        try:
            book = book.with_record(random_record(chance, book.seats(), words))
        except LumpError:
            continue
    return book


def great_book(chance, hours, shops):
    """A book of 24 seats and 120 records of all kinds, with stays in so many shops."""
    names = [chr(ord("a") + at) for at in range(24)]
    seats = [Peg(name) if chance.random() < 0.2 else Thing(name, at) for at, name in enumerate(names)]
    things = [seat.label for seat in seats if seat.IS_LOOKED_AT]
    records = [("given", name, chance.randint(5, 9)) for name in names[:15]]
    records.append(("mixed", tuple(names[15:20]), (7, 3, 8, 3, 3)))
    for name, start in chance.sample([(name, start) for name in names for start in (0, hours // 2)], 40):
        end = start + chance.randint(1, hours // 2)
        records.append(("stay", name, "shop" + "abcdefgh"[chance.randrange(shops)], start, end))
    while len(records) < 120:
        hour = chance.randint(0, hours)
        if chance.random() < 0.4:
            records.append(("swap", hour, *chance.sample(names, 2)))
        else:
            records.append(("look", hour, chance.choice(things), chance.randint(5, 9)))
    chance.shuffle(records)
    return Book(seats, records)


def subsets(names):
    return [frozenset(some) for many in range(len(names) + 1) for some in combinations(names, many)]


def beginnings(book, letter):
    """All states with which a story can begin."""
    states = subsets(book.names())
    for record in book.records():
        if record[0] == "mixed":
            many = sum(number in letter for number in record[2])
            states = [state for state in states if len(state & set(record[1])) == many]
    return states


def exchanged(state, one, other):
    turned = {one: other, other: one}
    return frozenset(turned.get(name, name) for name in state)


def nexts(step, state):
    """All states to which a step can lead from a state, without doubles."""
    if step[0] == "look":
        return [state]
    if step[0] == "swap":
        return list({state, exchanged(state, step[2], step[3])})
    inside = state & set(step[4])
    return [(state - inside) | frozenset(some) for some in combinations(step[4], len(inside))]


def all_stories(book, letter):
    """All stories, each as a tuple of sets of names."""
    stories = [(state,) for state in beginnings(book, letter)]
    for step in book.steps():
        stories = [(*story, state) for story in stories for state in nexts(step, story[-1])]
    return stories


def random_story(chance, book, letter):
    """A story of the book, None if there is none."""
    states = [chance.choice(beginnings(book, letter))]
    for step in book.steps():
        states.append(chance.choice(sorted(nexts(step, states[-1]), key=sorted)))
    return tuple(states)


def false_in(book, letter, story):
    """The indexes of the false records of a story that is a tuple of sets."""
    steps = book.steps()
    found = []
    for at, record in enumerate(book.records()):
        if record[0] == "given":
            is_false = (record[1] in story[0]) is not (record[2] in letter)
        elif record[0] in ("swap", "look"):
            place = [step[:2] for step in steps].index((record[0], at))
            before, after = story[place], story[place + 1]
            if record[0] == "look":
                is_false = (record[2] in before) is not (record[3] in letter)
            else:
                is_false = after != exchanged(before, record[2], record[3])
        else:
            is_false = False
        if is_false:
            found.append(at)
    return found


def listed(book, story):
    """The states of a story as lists of names in the order of the book."""
    return [[name for name in book.names() if name in state] for state in story]


def least_sum(book, letter, counted, sign):
    """The least of K times the false records plus sign times the counted seats in the list, over all stories."""
    weight = len(book.seats()) + 1
    return min(
        weight * len(false_in(book, letter, story)) + sign * len(story[-1] & set(counted))
        for story in all_stories(book, letter)
    )

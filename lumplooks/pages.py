"""Pages: the lines that write what a recall has, and the commands of such lines."""

from lumplooks.books import Book
from lumplooks.errors import InvalidPage, LumpError
from lumplooks.letters import Letter
from lumplooks.numbers import number_in
from lumplooks.recalls import Recall, after, recall_of

# What the words behind the first one of a line stand for. Of a letter all words are its text.
FORMS = {
    "thing": ("name", "number"), "peg": ("name",), "given": ("name", "number"), "mixed": ("names", "numbers"),
    "stay": ("name", "name", "number", "number"), "swap": ("number", "name", "name"),
    "look": ("number", "name", "number"),
}
SEAT_WORDS = ("thing", "peg")


def write_page(recall):
    """The page of a recall."""
    book = recall.book_now()
    lines = [f"letter {recall.letter_now().text()}"]
    lines.extend([seat.text() for seat in book.seats()])
    lines.extend([" ".join([item_text(item) for item in record]) for record in book.records()])
    return "".join([f"{line}\n" for line in lines])


def item_text(item):
    """The word for an item of a record."""
    return ",".join([str(part) for part in item]) if isinstance(item, tuple) else str(item)


def read_page(text):
    """The recall that a page writes."""
    if not isinstance(text, str):
        raise InvalidPage(0)
    lines = text.split("\n")
    book, letter = Book(), Letter()
    commands = []
    for at, line in enumerate(lines[:-1]):
        command = command_of(line)
        if command is None or not is_in_place(command, commands):
            raise InvalidPage(at)
        try:
            book, letter = after(command, book, letter, Recall.MOST)
        except LumpError:
            raise InvalidPage(at) from None
        commands.append(command)
    if lines[-1] or not commands:
        raise InvalidPage(len(commands))
    return recall_of(book, letter, Recall.MOST)


def is_in_place(command, earlier):
    """Whether a command can follow the earlier ones: first the letter, then the seats, then the records."""
    words = [other[0] for other in earlier]
    if command[0] == "letter":
        return not words
    return len(words) > 0 and (command[0] == "record" or "record" not in words)


def command_of(line):
    """The command of a line of a page, None for a line of another form."""
    words = line.split(" ")
    if "" in words or "\n" in line:
        return None
    if words[0] == "letter":
        return ("letter", " ".join(words[1:])) if len(words) > 1 else None
    if words[0] not in FORMS or len(words) != len(FORMS[words[0]]) + 1:
        return None
    items = [item_in(kind, word) for kind, word in zip(FORMS[words[0]], words[1:])]
    if None in items:
        return None
    return (words[0], *items) if words[0] in SEAT_WORDS else ("record", (words[0], *items))


def item_in(kind, word):
    """The item that a word writes, None if it is not of this kind."""
    if kind == "name":
        return word
    if kind == "number":
        return number_in(word)
    parts = [number_in(part) if kind == "numbers" else part for part in word.split(",")]
    return None if None in parts or "" in parts else tuple(parts)

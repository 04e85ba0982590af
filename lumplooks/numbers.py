"""Numbers, names and lists, and the texts of numbers."""

GREATEST = 10 ** 18 - 1

MOST_FIGURES = 18
MOST_LETTERS = 8


def is_number(value, least=0, most=GREATEST):
    """Whether any value is an integer, but no boolean, from least to most."""
    return isinstance(value, int) and not isinstance(value, bool) and least <= value <= most


def is_name(value):
    """Whether any value has 1 to 8 lowercase letters."""
    if not isinstance(value, str) or len(value) > MOST_LETTERS:
        return False
    return value.isascii() and value.isalpha() and value.islower()


def number_in(text):
    """The number that a text of at most 18 digits without leading zeros writes, None for any other value."""
    if not isinstance(text, str) or len(text) > MOST_FIGURES:
        return None
    if not text.isascii() or not text.isdigit():
        return None
    if text[0] == "0" and len(text) > 1:
        return None
    return int(text)


def is_list(value):
    """Whether any value is a list, or a tuple, which may be passed where a list is documented."""
    return isinstance(value, (list, tuple))

"""The plain kinds of values that all other files ask for."""

MOST_LETTERS = 8
MOST_WORTH = 9
NOTICE = 9


def is_integer(value):
    """Tells whether a value is an INTEGER."""
    # Python counts True and False as numbers, the document does not.
    return isinstance(value, int) and not isinstance(value, bool)


def is_count(value):
    """Tells whether a value is a COUNT."""
    return is_integer(value) and value >= 0


def is_below(value, limit):
    """Tells whether a value is a COUNT that is less than the limit."""
    return is_count(value) and value < limit


def is_worth(value):
    """Tells whether a value is a WORTH."""
    return is_count(value) and value <= MOST_WORTH


def is_name(value):
    """Tells whether a value is a NAME."""
    if not isinstance(value, str) or len(value) < 1 or len(value) > MOST_LETTERS:
        return False
    return all(["a" <= letter <= "z" for letter in value])


def is_list(value):
    """Tells whether a value may be passed where the document says list."""
    return isinstance(value, (list, tuple))


def is_tuple(value, many):
    """Tells whether a value is a tuple of so many."""
    return isinstance(value, tuple) and len(value) == many


def are_integers(value):
    """Tells whether all parts of a list or tuple are INTEGERS."""
    return all([is_integer(part) for part in value])


def is_line(value, lines):
    """Tells whether a value is one of the lines."""
    # A value of another kind must not be asked whether it equals a name.
    return isinstance(value, str) and value in lines


def are_worths(value, lines):
    """Tells whether a value is a dict from some of the lines to worths."""
    if not isinstance(value, dict):
        return False
    return all([is_line(line, lines) and is_worth(worth) for line, worth in value.items()])


def is_stream(value):
    """Tells whether a value is a list of worths."""
    return is_list(value) and all([is_worth(worth) for worth in value])


def are_streams(value, lines):
    """Tells whether a value is a dict from some of the lines to lists of worths."""
    if not isinstance(value, dict):
        return False
    return all([is_line(line, lines) and is_stream(worths) for line, worths in value.items()])


def are_rows(value, many):
    """Tells whether a value is a tuple of so many tuples of worths."""
    return is_tuple(value, many) and all([isinstance(row, tuple) and is_stream(row) for row in value])

"""The texts of catalogues."""

from joinhall.catalogues import check_catalogue
from joinhall.errors import TextError

DIGITS = "0123456789"
DIGIT_LIMIT = 9


def write_numbers(numbers):
    """Return integers as words, separated by one space."""
    return " ".join([str(n) for n in numbers])


def write_catalogue(catalogue):
    """Return the text of a catalogue."""
    check_catalogue(catalogue)
    lines = []
    for name, columns, rows in catalogue:
        lines.append(f"table {name} {columns}\n")
        for row in rows:
            lines.append(f"row {write_numbers(row)}\n")
    return "".join(lines)


def lines_of(text):
    """Return the lines of a text, without the line feeds that end them."""
    lines = text.split("\n")
    if lines.pop() != "":
        raise TextError("the last line is not ended by a line feed")
    return lines


def read_number(word):
    """Return the integer of a word."""
    digits = word[1:] if word.startswith("-") else word
    if digits == "" or not all([sign in DIGITS for sign in digits]):
        raise TextError("a word is no integer")
    if len(digits) > DIGIT_LIMIT:
        raise TextError("an integer has too many digits")
    # No sign stands before a nought, so "-0" is wrong in the same way as "00".
    if digits.startswith("0") and word != "0":
        raise TextError("an integer has a leading zero")
    return int(word)


def read_numbers(words):
    """Return the tuple of the integers of some words, of which there is at least one."""
    if len(words) == 0:
        raise TextError("a line has no integers")
    return tuple([read_number(word) for word in words])


def read_heading(words):
    """Return the name and the number of columns of the words behind `table`."""
    if len(words) != 2 or words[0] == "":
        raise TextError("a line of a table does not have a name and a number")
    return words[0], read_number(words[1])


def read_catalogue(text):
    """Return the catalogue of a text."""
    tables = []
    for line in lines_of(text):
        words = line.split(" ")
        if words[0] == "table":
            name, columns = read_heading(words[1:])
            tables.append((name, columns, []))
        elif words[0] == "row" and len(tables) > 0:
            tables[-1][2].append(read_numbers(words[1:]))
        else:
            raise TextError("a line is neither a table's nor a row's behind it")
    catalogue = tuple([(name, columns, tuple(rows)) for name, columns, rows in tables])
    check_catalogue(catalogue)
    return catalogue

"""The texts of patterns."""

from joinhall.errors import TextError
from joinhall.names import is_word
from joinhall.patterns import check_pattern


def write_names(names):
    """Return names as they stand in a text, in a row."""
    return ", ".join(names)


def write_pattern(pattern):
    """Return the text of a pattern."""
    check_pattern(pattern)
    head, atoms = pattern
    body = ", ".join([f"{name}({write_names(variables)})" for name, variables in atoms])
    if len(head) == 0:
        return f"<- {body}"
    return f"{write_names(head)} <- {body}"


def read_name(text):
    """Return a text that has the signs of a name, and at least one of them."""
    if not is_word(text):
        raise TextError("a name is empty or has a sign that no name has")
    return text


def read_names(text):
    """Return the names that stand in a row, of which there is at least one."""
    return tuple([read_name(part) for part in text.split(", ")])


def read_head(text):
    """Return the head of a pattern and the text of its atoms."""
    if text.startswith("<- "):
        return (), text[3:]
    before, arrow, behind = text.partition(" <- ")
    if arrow == "":
        raise TextError("there is no arrow between spaces")
    return read_names(before), behind


def read_atom(text):
    """Return the atom of a text in which the last bracket is left out."""
    name, _, variables = text.partition("(")
    return read_name(name), read_names(variables)


def read_atoms(text):
    """Return the atoms of a text, of which there is at least one."""
    if not text.endswith(")"):
        raise TextError("the last atom does not end with a bracket")
    return tuple([read_atom(part) for part in text[:-1].split("), ")])


def read_pattern(text):
    """Return the pattern of a text."""
    head, body = read_head(text)
    pattern = (head, read_atoms(body))
    check_pattern(pattern)
    return pattern

"""Logs of keepers, and the keepers that come of doing all again."""

from joinhall.errors import HallError, JournalError
from joinhall.keeping import Keeper
from joinhall.notation import read_catalogue, read_numbers
from joinhall.texts import read_pattern

BEGIN = "begin"


def do_deed(keeper, line):
    """Do the deed of a line of a log."""
    verb, _, rest = line.partition(" ")
    name, _, more = rest.partition(" ")
    if verb == "stand":
        keeper.stand(name, read_pattern(more))
    elif verb == "fall":
        # With more than a name behind it, this is the name of nothing.
        keeper.fall(rest)
    elif verb == "add":
        keeper.add(name, read_numbers(more.split(" ")))
    elif verb == "drop":
        keeper.drop(name, read_numbers(more.split(" ")))
    else:
        raise JournalError("a line is no deed")


def redo(keeper, lines):
    """Do the deeds of the lines of a log, one after another."""
    for line in lines:
        try:
            do_deed(keeper, line)
        except HallError:
            raise JournalError("a line is no deed, or its deed cannot be done") from None


def replay(text):
    """Return the keeper of a log."""
    if not text.endswith("\n"):
        raise JournalError("the last line is not ended by a line feed")
    lines = text[:-1].split("\n")
    if BEGIN not in lines:
        raise JournalError("no line begins the deeds")
    at = lines.index(BEGIN)
    keeper = Keeper(read_catalogue("".join([f"{line}\n" for line in lines[:at]])))
    redo(keeper, lines[at + 1:])
    return keeper


def replay_whole_lines(text):
    """Return the keeper of a log whose last line may be cut off in the middle."""
    return replay(text[:text.rfind("\n") + 1])

"""What several tests use."""


def error_of(call, *arguments):
    """Return the class of the error that a call raises, None if it raises none."""
    try:
        call(*arguments)
    except Exception as error:
        return type(error)
    return None


def is_plain(value):
    """Tell whether a value is made of integers, strings and tuples only."""
    if type(value) is tuple:
        return all(is_plain(item) for item in value)
    return type(value) in (int, str)


def table_with(count, name="t"):
    """Return a table with one column and so many rows."""
    return (name, 1, tuple((n,) for n in range(count)))


def tables_with(count):
    """Return a catalogue of so many empty tables."""
    return tuple((f"t{n}", 1, ()) for n in range(count))


BAD_CATALOGUE = (("Bad", 1, ()),)
LARGE_CATALOGUE = (table_with(301),)
BAD_PATTERN = ((), ())
LARGE_PATTERN = ((), tuple(("t", ("x",)) for n in range(9)))

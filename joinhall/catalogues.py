"""Catalogues: tables of rows of integers, ascending by name."""

from joinhall.errors import CatalogueError, RowError, TooLarge, UnknownTable
from joinhall.names import is_name

TABLE_LIMIT = 8
ROW_LIMIT = 300
COLUMN_LIMIT = 4
NUMBER_LIMIT = 999999999


def ascends(items):
    """Tell whether the items of a tuple or list strictly ascend."""
    return all([low < high for low, high in zip(items, items[1:])])


def is_row(row, columns):
    """Tell whether something is a row for a number of columns."""
    if not isinstance(row, tuple) or len(row) != columns:
        return False
    return all([isinstance(n, int) and abs(n) <= NUMBER_LIMIT for n in row])


def is_table(table):
    """Tell whether something is a table, with however many rows."""
    if not isinstance(table, tuple) or len(table) != 3:
        return False
    name, columns, rows = table
    if not is_name(name) or not isinstance(columns, int) or not isinstance(rows, tuple):
        return False
    if columns < 1 or columns > COLUMN_LIMIT:
        return False
    return all([is_row(row, columns) for row in rows]) and ascends(rows)


def check_catalogue(catalogue):
    """Return None, or raise CatalogueError, then TooLarge."""
    if not all([is_table(table) for table in catalogue]):
        raise CatalogueError("a table is not as it must be")
    if not ascends([table[0] for table in catalogue]):
        raise CatalogueError("the names of the tables do not strictly ascend")
    if len(catalogue) > TABLE_LIMIT:
        raise TooLarge("there are too many tables")
    if any([len(table[2]) > ROW_LIMIT for table in catalogue]):
        raise TooLarge("a table has too many rows")


def table_of(catalogue, name):
    """Return the table of a name from a catalogue that is checked already."""
    for table in catalogue:
        if table[0] == name:
            return table
    raise UnknownTable("there is no table of this name")


def columns_of(catalogue, name):
    """Return the number of columns of a table."""
    check_catalogue(catalogue)
    return table_of(catalogue, name)[1]


def rows_of(catalogue, name):
    """Return the rows of a table."""
    check_catalogue(catalogue)
    return table_of(catalogue, name)[2]


def with_rows(catalogue, name, rows):
    """Return a catalogue whose table of a name has these rows instead of its own."""
    tables = []
    for table in catalogue:
        if table[0] == name:
            tables.append((name, table[1], rows))
        else:
            tables.append(table)
    return tuple(tables)


def with_row(catalogue, name, row):
    """Return the catalogue with one row more in a table."""
    check_catalogue(catalogue)
    _, columns, rows = table_of(catalogue, name)
    if not is_row(row, columns):
        raise RowError("the row does not fit the table")
    if row in rows:
        raise RowError("the row is there already")
    if len(rows) >= ROW_LIMIT:
        raise TooLarge("the table would have too many rows")
    return with_rows(catalogue, name, tuple(sorted(rows + (row,))))


def without_row(catalogue, name, row):
    """Return the catalogue without a row of a table."""
    rows = rows_of(catalogue, name)
    if row not in rows:
        raise RowError("the row is not there")
    return with_rows(catalogue, name, tuple([other for other in rows if other != row]))

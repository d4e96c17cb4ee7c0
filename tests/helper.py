"""What several tests use."""

import itertools


def error_of(call, *arguments):
    """Return the class of the error that a call raises, None if it raises none."""
    try:
        call(*arguments)
    except Exception as error:
        return type(error)
    return None


def is_plain(value):
    """Tell whether a value is made of integers, strings and tuples only."""
    if type(value) is tuple:
        return all(is_plain(item) for item in value)
    return type(value) in (int, str)


def table_with(count, name="t"):
    """Return a table with one column and so many rows."""
    return (name, 1, tuple((n,) for n in range(count)))


def tables_with(count):
    """Return a catalogue of so many empty tables."""
    return tuple((f"t{n}", 1, ()) for n in range(count))


def random_case(dice):
    """Return a small catalogue and a pattern that fits it."""
    catalogue = []
    for name in ("a", "b", "c")[:dice.randint(1, 3)]:
        columns = dice.randint(1, 4)
        rows = {tuple(dice.randint(-1, 2) for _ in range(columns)) for _ in range(dice.randint(0, 12))}
        catalogue.append((name, columns, tuple(sorted(rows))))
    atoms = []
    for _ in range(dice.randint(1, 5)):
        name, columns, rows = dice.choice(catalogue)
        atoms.append((name, tuple(dice.choice("stuvw") for _ in range(columns))))
    variables = sorted({variable for name, names in atoms for variable in names})
    head = dice.sample(variables, dice.randint(0, len(variables)))
    return tuple(catalogue), (tuple(head), tuple(atoms))


def three_tables(dice):
    """Return a catalogue with the tables of which patterns are drawn by `three_pattern`."""
    tables = []
    for name, size in (("e", 2), ("on", 1), ("three", 3)):
        rows = {tuple(dice.randint(0, 2) for _ in range(size)) for _ in range(dice.randint(1, 12))}
        tables.append((name, size, tuple(sorted(rows))))
    return tuple(tables)


def three_pattern(dice, most, heads):
    """Return a pattern of up to so many atoms, with a head of up to so many variables. It has
    few variables and tables, so that as a rule some atoms can become others."""
    names = "uvwxy"[:dice.randint(1, 5)]
    atoms = []
    for _ in range(dice.randint(1, most)):
        name, size = dice.choice((("e", 2), ("e", 2), ("e", 2), ("on", 1), ("three", 3)))
        atoms.append((name, tuple(dice.choice(names) for _ in range(size))))
    variables = variables_in((None, atoms))
    return (tuple(dice.sample(variables, min(len(variables), dice.randint(0, heads)))), tuple(atoms))


def variables_in(pattern):
    """Return the variables of a pattern, ascending."""
    return tuple(sorted({variable for name, variables in pattern[1] for variable in variables}))


def fits(row, variables, given):
    """Tell whether a row fits an atom with these variables where some have integers."""
    now = dict(given)
    return all(now.setdefault(name, entry) == entry for name, entry in zip(variables, row))


def partials_by_trying(catalogue, pattern, order):
    """Return for each number of first variables the list of their partial answers, ascending,
    found by trying all tuples of integers that stand anywhere in the catalogue."""
    tables = {name: rows for name, columns, rows in catalogue}
    numbers = sorted({n for rows in tables.values() for row in rows for n in row})
    found = []
    for k in range(1, len(order) + 1):
        level = []
        for entries in itertools.product(numbers, repeat=k):
            given = dict(zip(order, entries))
            if all(any(fits(row, names, given) for row in tables[table]) for table, names in pattern[1]):
                level.append(entries)
        found.append(level)
    return found


def assignments_by_trying(catalogue, pattern):
    """Return all fitting assignments, as dicts, found by trying all rows for each atom."""
    tables = {name: rows for name, columns, rows in catalogue}
    found = [{}]
    for name, variables in pattern[1]:
        found = [dict(given, **dict(zip(variables, row)))
                 for given in found for row in tables[name] if fits(row, variables, given)]
    return found


def explained_by_trying(catalogue, pattern):
    """Return a dict that has for each answer the lists of the facts, atom by atom, of all
    fitting assignments that give it."""
    found = {}
    for given in assignments_by_trying(catalogue, pattern):
        facts = [(name, tuple(given[one] for one in variables)) for name, variables in pattern[1]]
        found.setdefault(tuple(given[one] for one in pattern[0]), []).append(facts)
    return found


def facts_in(catalogue):
    """Return all facts of a catalogue, ascending."""
    return [(name, row) for name, columns, rows in catalogue for row in rows]


def circle(size, table="e"):
    """Return a pattern with an empty head whose atoms go around so many variables."""
    names = "abcdefgh"[:size]
    return ((), tuple((table, (names[n], names[(n + 1) % size])) for n in range(size)))


def star(leaves, table="e"):
    """Return a pattern with an empty head whose atoms have z beside one of so many others."""
    return ((), tuple((table, (name, "z")) for name in "abcdefgh"[:leaves]))


def whole_graph(size, table="e"):
    """Return a pattern with an empty head and an atom for each two of so many variables."""
    return ((), tuple((table, pair) for pair in itertools.combinations("abcdefgh"[:size], 2)))


def large_pattern(dice):
    """Return a pattern of up to 8 atoms over up to 8 variables."""
    atoms = []
    for _ in range(dice.randint(1, 8)):
        columns = dice.randint(1, 4)
        atoms.append((f"t{columns}", tuple(dice.choice("abcdefgh") for _ in range(columns))))
    return ((), tuple(atoms))


def links_between(pattern):
    """Return for each variable the set of those that stand beside it in an atom."""
    links = {name: set() for name in variables_in(pattern)}
    for table, names in pattern[1]:
        for name in names:
            links[name] |= set(names) - {name}
    return links


def bags_when_taken_out(pattern, order):
    """Return the set of a variable and its neighbours for each variable of an order, when it
    is taken out and its neighbours are linked with each other."""
    links = links_between(pattern)
    bags = []
    for name in order:
        near = links.pop(name)
        bags.append(near | {name})
        for other in near:
            links[other] = (links[other] | near) - {name, other}
    return bags


def drawn_parts(dice, pattern):
    """Return a right tree of parts, not of the least width as a rule, with bags that have
    nothing in common with those above, and some with no variable of their own."""
    order = list(variables_in(pattern))
    dice.shuffle(order)
    bags = bags_when_taken_out(pattern, order)
    parts = []
    homes = {}
    for at in reversed(range(len(order))):
        later = [name for name in order[at + 1:] if name in bags[at]]
        above = -1
        if later:
            above = homes[later[0]]
        elif parts:
            above = dice.randrange(len(parts))
        homes[order[at]] = len(parts)
        parts.append((tuple(sorted(bags[at])), above))
        if dice.random() < 0.2:
            number = dice.randrange(len(parts))
            bag = parts[number][0]
            parts.append((tuple(sorted(dice.sample(bag, dice.randint(1, len(bag))))), number))
    return tuple(parts)


def one_part(pattern):
    """Return the tree of parts with one bag of all variables."""
    return ((variables_in(pattern), -1),)


BAD_CATALOGUE = (("Bad", 1, ()),)
LARGE_CATALOGUE = (table_with(301),)
BAD_PATTERN = ((), ())
LARGE_PATTERN = ((), tuple(("t", ("x",)) for n in range(9)))

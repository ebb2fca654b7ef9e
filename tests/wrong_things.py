"""Values that are like a right one but for one thing, at any depth, and what no function can tell."""

from samples import strange_values


def leaf_changes(value):
    """Values in which one number, string or tuple of this one is another thing."""
    if isinstance(value, tuple):
        yield list(value)
        yield {'a': value}
        yield None
        yield (*value, 0)
        yield (value,)
        if value:
            yield value[:-1]
            yield value[1:]
            yield (*value, value[-1])
        for at, item in enumerate(value):
            for other in leaf_changes(item):
                yield (*value[:at], other, *value[at + 1:])
    elif isinstance(value, int):
        yield from [value + 1, value - 1, -3, 10 ** 30, None, str(value), [value], (value,)]
        if value in (0, 1):
            yield bool(value)
    else:
        yield from [value + 'x', '', None, 0, [value], (value,)]


def table_changes(table):
    """Tables that have a member less, twice, in another place, or wrong in one thing."""
    yield list(table)
    yield ()
    for at in some_places(table):
        yield (*table[:at], *table[at + 1:])
        yield (*table[:at], table[at], *table[at:])
        yield (*table, table[at])
        if at:
            yield (*table[:at - 1], table[at], table[at - 1], *table[at + 1:])
    for at in (0, len(table) - 1):
        for other in leaf_changes(table[at]):
            yield (*table[:at], other, *table[at + 1:])


def some_places(table):
    """Places of members: all of a short table, else some of all regions."""
    return range(len(table)) if len(table) < 40 else range(0, len(table), len(table) // 20)


def no_results(words):
    """What is no result of any looking function, whatever it looks for."""
    rows = strange_values() + [(word,) for word in words] + [(word, ()) for word in words] + [(word, (), ()) for word in words]
    rows += [[word, ()] for word in words] + [(word, (), (), ()) for word in words] + list(words) + [('none', ()), ((), ())]
    for word in words:
        rows += [(word, value) for value in strange_values()] + [(word, (value,)) for value in strange_values()]
        rows += [(word, value, ()) for value in strange_values()] + [(word, (), value) for value in strange_values()]
    return rows

"""What several test files need: strange values, sheets by their makings, and a check of errors."""

import itertools

from settledreads import errors
from settledreads.plans import Plan
from settledreads.sheets import Sheet
from settledreads.views import Draft, View

SHEET_TEXT = 'key mode 2\nkey size 3\nrule mode = 0 or size != 2'
# The sequence of the keys is not that of their names; rule 1 and 2 together bar b = 1 and never say so.
LONG_TEXT = 'key c 3\nkey a 2\nkey b 2\nrule c != 2 or a = 1\nrule b = 0 or a = 0\nrule b = 0 or a = 1'


def nested(depth):
    """A value that is nested as deep as any value may be."""
    value = 0
    for at in range(depth):
        value = (value,) if at % 2 else [value]
    return value


def strange_values():
    """Values of all kinds that callers may pass."""
    sheet = Sheet(SHEET_TEXT)
    view = View(sheet, (('mode', 1),))
    whole = View.whole(sheet, (0, 0))
    return [
        None, True, False, 0, 1, -1, 5, 10 ** 30, '', 'x', 'mode', 'mode ', 'key', 'a long string\nof lines', b'', b'mode',
        (), [], {}, (0,), [0], ('mode',), ['mode'], ('mode', 1), ['mode', 1], {'mode': 1}, {0: 'mode'}, ((),), [[]],
        (('mode', 1),), [('mode', 1)], (('mode', [1]),), ((('mode', 1),),), (None,), (True, False), {'a': {'b': []}},
        nested(30), object(), set(), 1.5, sheet, sheet.rules, sheet.rules[0], view, whole, Draft(whole),
        Plan('part mode fresh'), errors.BadText(1), errors.NoKey('mode'), Sheet, View.whole,
    ]


def no_strings():
    return [value for value in strange_values() if not isinstance(value, str)]


def raises(case, kind, value, call, *rest, **more):
    """That the call raises an error of just this kind, with this very value."""
    try:
        call(*rest, **more)
    except errors.SettledError as error:
        told = error
    except errors.Missing as error:
        told = error
    else:
        case.fail(f'{kind.__name__}({value!r}) is not raised')
    case.assertEqual(told.__class__, kind)
    same_value(case, told.value, value)


def same_value(case, told, wanted):
    """That it is the very object, or an equal number or string of the same kind."""
    if told is not wanted:
        case.assertIn(wanted.__class__, (int, str))
        case.assertEqual((told.__class__, told), (wanted.__class__, wanted))


def sheet_text(keys, rules):
    """The text of a sheet of (name, size) and of rules, each a list of (name, sign, worth)."""
    lines = [f'key {name} {size}' for name, size in keys]
    return '\n'.join(lines + [f'rule {rule_text(rule)}' for rule in rules])


def rule_text(rule):
    return ' or '.join([f'{name} {sign} {worth}' for name, sign, worth in rule])


def is_so(lit, worths):
    """Whether a (name, sign, worth) is so of a dict that has this name."""
    name, sign, worth = lit
    return worths[name] == worth if sign == '=' else worths[name] != worth


def editions_of(keys, rules):
    """By trying all worths: the editions that keep all rules."""
    found = []
    for worths in itertools.product(*[range(size) for _, size in keys]):
        held = dict(zip([name for name, _ in keys], worths))
        if all(any(is_so(lit, held) for lit in rule) for rule in rules):
            found.append(worths)
    return tuple(found)


def random_makings(source):
    """Keys and rules of a sheet that can be read, of all numbers and sizes that may be."""
    names = source.sample(['a', 'b', 'key', 'rule', 'or', 'abcdefgh', 'z'], source.randint(1, 3))
    keys = [(name, source.randint(2, 3)) for name in names]
    rules = []
    for _ in range(source.randint(0, 4)):
        rule = []
        for _ in range(source.randint(1, 3)):
            name, size = source.choice(keys)
            rule.append((name, source.choice(['=', '!=']), source.randrange(size)))
        if editions_of(keys, rules + [rule]):
            rules.append(rule)
    return keys, rules


def all_views(sheet):
    """All views of a sheet, lawful or not, with their worths as dicts."""
    rows = []
    for worths in itertools.product(*[[None, *range(size)] for size in sheet.sizes]):
        held = {name: worth for name, worth in zip(sheet.names, worths) if worth is not None}
        rows.append((View(sheet, tuple(sorted(held.items()))), held))
    return rows

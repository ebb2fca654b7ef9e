"""Views: worths of some keys of a sheet. Drafts: worths of all keys, changed one by one."""

from settledreads.errors import BadEdition, BadPairs, BadWorth, NoKey, OtherSheet, Parted
from settledreads.lits import fits, truth
from settledreads.texts import is_int


class View:
    """Worths of some keys of a sheet, perhaps of none, perhaps unlawful."""

    def __init__(self, sheet, pairs):
        if not are_pairs(sheet, pairs):
            raise BadPairs(pairs)
        held = dict(pairs)
        self._sheet = sheet
        self._pairs = pairs
        self._names = tuple([name for name in sheet.names if name in held])
        self._worths = tuple([held.get(name) for name in sheet.names])

    @staticmethod
    def whole(sheet, worths):
        """The view that has these worths of all keys."""
        if not are_worths(sheet, worths):
            raise BadPairs(worths)
        return view_of(sheet, worths)

    @property
    def sheet(self):
        """The sheet that it was made with."""
        return self._sheet

    @property
    def pairs(self):
        """The ascending tuple of (key, worth)."""
        return self._pairs

    @property
    def worths(self):
        """The worth of each key of the sheet, None for one that it has not."""
        return self._worths

    @property
    def is_whole(self):
        """Whether it has all keys."""
        return None not in self._worths

    @property
    def is_lawful(self):
        """Whether some edition has all of it."""
        return any([fits(self._worths, edition) for edition in self._sheet.editions])

    def is_within(self, other):
        """Whether the other has all of it."""
        check_sheet(self._sheet, other)
        return fits(self._worths, other.worths)

    def __getitem__(self, key):
        if key not in self._names:
            raise NoKey(key)
        return self._worths[self._sheet.names.index(key)]

    def __contains__(self, key):
        return key in self._names

    def __len__(self):
        return len(self._pairs)

    def __iter__(self):
        return iter(self._names)

    def __eq__(self, other):
        return isinstance(other, View) and self._sheet == other._sheet and self._pairs == other._pairs

    def __or__(self, other):
        check_sheet(self._sheet, other)
        check_parted(self, other)
        return joined(self._sheet, self, other)

    def __and__(self, other):
        check_sheet(self._sheet, other)
        return view_of(self._sheet, [mine if mine == theirs else None for mine, theirs in beside(self, other)])

    def __sub__(self, other):
        check_sheet(self._sheet, other)
        return view_of(self._sheet, [mine if theirs is None else None for mine, theirs in beside(self, other)])


class Draft:
    """Worths of all keys that are changed one by one, whatever the rules say."""

    def __init__(self, edition):
        if not is_edition(edition):
            raise BadEdition(edition)
        # A view never changes: so each change puts another one in its place.
        self._view = edition

    @property
    def view(self):
        """The View that it is now."""
        return self._view

    @property
    def broken(self):
        """The numbers of the rules that are False of it."""
        rules = self._view.sheet.rules
        worths = self._view.worths
        return tuple([number for number, rule in enumerate(rules) if truth(rule.lits, worths) is False])

    def __getitem__(self, key):
        return self._view[key]

    def __setitem__(self, key, worth):
        sheet = self._view.sheet
        if key not in sheet.names:
            raise NoKey(key)
        if not is_worth(sheet, key, worth):
            raise BadWorth(worth)
        self._view = joined(sheet, View(sheet, ((key, worth),)), self._view)

    def __contains__(self, key):
        return key in self._view

    def __iter__(self):
        raise TypeError("a draft is not iterated over")

    def __ior__(self, other):
        # The draft keeps its own sheet, and so its own Rules, though the other's is an equal one.
        sheet = self._view.sheet
        check_sheet(sheet, other)
        self._view = joined(sheet, other, self._view)
        return self


def is_worth(sheet, key, worth):
    """Whether this is a key of the sheet, with one of its worths."""
    if key not in sheet.names or not is_int(worth):
        return False
    return 0 <= worth < sheet.sizes[sheet.names.index(key)]


def are_pairs(sheet, pairs):
    """Whether this is an ascending tuple of (key, worth), no key twice."""
    if not isinstance(pairs, tuple):
        return False
    for pair in pairs:
        if not isinstance(pair, tuple) or len(pair) != 2 or not is_worth(sheet, pair[0], pair[1]):
            return False
    return all([one[0] < other[0] for one, other in zip(pairs, pairs[1:])])


def are_worths(sheet, worths):
    """Whether this is a tuple with a worth for each key."""
    if not isinstance(worths, tuple) or len(worths) != len(sheet.names):
        return False
    return all([is_worth(sheet, name, worth) for name, worth in zip(sheet.names, worths)])


def is_edition(value):
    """Whether this is a View that is whole and lawful."""
    return isinstance(value, View) and value.is_whole and value.is_lawful


def check_sheet(sheet, value):
    """OtherSheet for what is no View of an equal sheet."""
    if not isinstance(value, View) or value.sheet != sheet:
        raise OtherSheet(value)


def check_parted(one, other):
    """Parted with the first key of which two views have unlike worths."""
    for name, mine, theirs in zip(one.sheet.names, one.worths, other.worths):
        if mine is not None and theirs is not None and mine != theirs:
            raise Parted(name)


def view_of(sheet, worths):
    """The view that has these worths, given in the sequence of keys, None for none."""
    pairs = [(name, worth) for name, worth in zip(sheet.names, worths) if worth is not None]
    return View(sheet, tuple(sorted(pairs)))


def beside(one, other):
    """For each key the worths of two views of equal sheets."""
    return list(zip(one.worths, other.worths))


def joined(sheet, first, second):
    """What either of two views has; the first one goes ahead where both have a key."""
    return view_of(sheet, [theirs if mine is None else mine for mine, theirs in beside(first, second)])

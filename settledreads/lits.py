"""What the rules of a sheet say, over plain tuples.

A lit is (place of the key in the sheet, whether the sign is =, worth). Worths are a tuple with
the worth of each key, in the sequence of keys, None where there is none. Views, drafts and rules
all ask here, since operators and properties must not call Rule objects.
"""

from settledreads.texts import number_of, words_of

# `rule` and one, two or three lits of three words each, with `or` between.
RULE_LENGTHS = (4, 8, 12)
LIT_STEP = 4


def lit_of(words, names, sizes):
    """The lit that three words tell, None if they tell none."""
    name, sign, word = words
    worth = number_of(word)
    if name not in names or sign not in ("=", "!=") or worth is None:
        return None
    place = names.index(name)
    if worth >= sizes[place]:
        return None
    return (place, sign == "=", worth)


def lits_of(line, names, sizes):
    """The lits of a line `rule ..`, () if it has not this form."""
    words = words_of(line)
    if words[0] != "rule" or len(words) not in RULE_LENGTHS:
        return ()
    if not all([word == "or" for word in words[LIT_STEP::LIT_STEP]]):
        return ()
    lits = [lit_of(words[at:at + 3], names, sizes) for at in range(1, len(words), LIT_STEP)]
    if None in lits:
        return ()
    return tuple(lits)


def is_so(lit, worths):
    """Whether a lit is so, None if the worths lack its key."""
    place, is_same, worth = lit
    if worths[place] is None:
        return None
    return (worths[place] == worth) == is_same


def truth(lits, worths):
    """True if one lit is so, False if none can be so any more, None otherwise."""
    told = [is_so(lit, worths) for lit in lits]
    if True in told:
        return True
    if None in told:
        return None
    return False


def all_worths(sizes):
    """All tuples with a worth for each key, ascending."""
    rows = [()]
    for size in sizes:
        rows = [(*row, worth) for row in rows for worth in range(size)]
    return rows


def fits(worths, edition):
    """Whether an edition has all of these worths."""
    return all([worth is None or worth == other for worth, other in zip(worths, edition)])

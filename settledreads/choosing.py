"""The cheapest ways by which works keep a manner."""

from settledreads.errors import BadOffers, BadParts
from settledreads.forms import are_names, is_ascending, is_number, is_row, is_same
from settledreads.manners import MANNERS, check_manner
from settledreads.plans import WAYS
from settledreads.pricing import HIGHEST, LOWEST, all_some
from settledreads.seeing import sees, shows_sees

MOST_OFFERS = 5


def cheapest_ways(house, parts, manner, offers):
    """("choice", price, choice, tables, reasons), or ("none", reasons): BadParts, BadManner, BadOffers, TooMany."""
    reasons = []
    for choice in choices_of(house, parts, manner, offers):
        tables, reason = told_of(house_with(house, choice), parts, manner)
        if reason is None:
            return ("choice", price_of(choice), choice, tables, tuple(reasons))
        reasons.append((choice, *reason))
    return ("none", tuple(reasons))


def shows_cheapest_ways(house, parts, manner, offers, value):
    """Whether a value is such a result of cheapest_ways as is right by itself: BadParts, BadManner, BadOffers."""
    choices = choices_of(house, parts, manner, offers)
    if is_row(value, 2) and value[0] == "none":
        return are_reasons(house, parts, manner, choices, value[1])
    if not is_row(value, 5) or value[0] != "choice":
        return False
    _, price, choice, tables, reasons = value
    found = [number for number, row in enumerate(choices) if is_same(choice, row)]
    if not found or not is_same(price, price_of(choice)) or not is_row(tables, len(parts)):
        return False
    changed = house_with(house, choice)
    if not all([shows_sees(changed, part, manner, ("always", table)) for part, table in zip(parts, tables)]):
        return False
    return are_reasons(house, parts, manner, choices[:found[0]], reasons)


def choices_of(house, parts, manner, offers):
    """All choices in their sequence: BadParts, BadManner, BadOffers."""
    if not are_names(parts, house.plan.parts):
        raise BadParts(parts)
    check_manner(MANNERS, manner)
    if not are_offers(house, offers):
        raise BadOffers(offers)
    rows = [(price_of(choice), choice) for choice in all_some(offers) if no_name_twice(choice)]
    return [choice for _, choice in sorted(rows)]


def are_offers(house, value):
    """Whether a value is an ascending tuple of one to five offers, no (part, way) twice."""
    if not isinstance(value, tuple) or not 1 <= len(value) <= MOST_OFFERS:
        return False
    return all([is_offer(house, offer) for offer in value]) and is_ascending([offer[:2] for offer in value])


def is_offer(house, value):
    """Whether a value is a part of the house, with a way that is not its own one, and a price."""
    if not is_row(value, 3) or value[0] not in house.plan.parts or value[1] not in WAYS:
        return False
    own = house.plan.ways[house.plan.parts.index(value[0])]
    return value[1] != own and is_number(value[2], LOWEST, HIGHEST)


def no_name_twice(choice):
    """Whether no part has two ways in a row of offers that is ascending."""
    return is_ascending([offer[0] for offer in choice])


def price_of(choice):
    """The price of a choice."""
    return sum([offer[2] for offer in choice])


def house_with(house, choice):
    """The house with the ways of a choice."""
    told = {part: way for part, way, _ in choice}
    return house.with_ways(tuple([told.get(part, way) for part, way in zip(house.plan.parts, house.plan.ways)]))


def told_of(house, parts, manner):
    """(tables, None), or (None, (part, run)) of the first part whose works break the manner: TooMany."""
    tables = []
    for part in parts:
        word, told = sees(house, part, manner)
        if word == "breaks":
            return None, (part, told)
        tables.append(told)
    return tuple(tables), None


def are_reasons(house, parts, manner, choices, value):
    """Whether a value has a reason for each of these choices, in their sequence."""
    if not is_row(value, len(choices)):
        return False
    return all([is_reason(house, parts, manner, choice, row) for choice, row in zip(choices, value)])


def is_reason(house, parts, manner, choice, value):
    """Whether a value is a choice with one of the parts, and a run of it that breaks the manner."""
    if not is_row(value, 3) or not is_same(value[0], choice) or value[1] not in parts:
        return False
    return shows_sees(house_with(house, choice), value[1], manner, ("breaks", value[2]))

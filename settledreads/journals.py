"""Journals: texts from which keepers are read, also when they were torn."""

from settledreads.errors import BadText, SettledError
from settledreads.houses import House
from settledreads.keepers import Keeper
from settledreads.manners import MANNERS
from settledreads.orders import NO_MANNER, manner_by, numbers_of, order_of
from settledreads.statements import INDENT
from settledreads.texts import lines_of, words_of
from settledreads.views import View

HOUSE_AT = 3


def read_journal(text):
    """The keeper of a journal: BadText; then what the first order raises that is refused."""
    lines = lines_of(text)
    worths, manner, house, at = read_head(lines)
    orders = []
    for number in range(at, len(lines)):
        order = order_in(house, lines[number])
        if order is None:
            raise BadText(number)
        orders.append(order)
    keeper = keeper_of(house, worths, manner)
    for order in orders:
        give(keeper, order)
    return keeper


def recover(text):
    """(keeper, how many characters are lost) of the longest beginning that is a journal: BadText."""
    lines = lines_of(text)
    try:
        worths, manner, house, at = read_head(lines)
        keeper = keeper_of(house, worths, manner)
    except BadText:
        raise BadText(0)
    while at < len(lines) and is_given(keeper, lines[at]):
        at += 1
    whole = "\n".join(lines[:at])
    # The line feed behind the last line that is taken is not lost.
    return keeper, max(0, len(text) - len(whole) - 1)


def read_head(lines):
    """(worths, manner, house, number of the first line of an order): BadText."""
    told = words_of(lines[0])
    worths = numbers_of(told[1:])
    if told[0] != "edition" or worths is None:
        raise BadText(0)
    word = words_at(lines, 1)
    if len(word) != 2 or word[0] != "manner" or word[1] not in (*MANNERS, NO_MANNER):
        raise BadText(1)
    if words_at(lines, 2) != ["house"]:
        raise BadText(2)
    at = HOUSE_AT
    while at < len(lines) and lines[at].startswith(INDENT):
        at += 1
    house = house_of([line[len(INDENT):] for line in lines[HOUSE_AT:at]])
    if words_at(lines, at) != ["orders"]:
        raise BadText(at)
    return worths, manner_by(word[1]), house, at + 1


def words_at(lines, number):
    """The words of a line, none if it is missing."""
    return words_of(lines[number]) if number < len(lines) else []


def house_of(lines):
    """The House of the lines behind the word house: BadText with the line in the journal."""
    try:
        return House("\n".join(lines))
    except BadText as error:
        raise BadText(HOUSE_AT + error.value)


def keeper_of(house, worths, manner):
    """The keeper ahead of all orders: BadText(0) if the worths are no edition."""
    if worths not in house.sheet.editions:
        raise BadText(0)
    return Keeper(house, View.whole(house.sheet, worths), manner=manner)


def order_in(house, line):
    """The order of a line, None if it has not the form of one."""
    if not line.startswith(INDENT):
        return None
    return order_of(words_of(line[len(INDENT):]), house.sheet.sizes)


def give(keeper, order):
    """Does an order: raises as the keeper."""
    word, *rest = order
    if word == "install":
        keeper.install(View.whole(keeper.house.sheet, rest[0]))
    elif word == "renew":
        keeper.renew(rest[0])
    elif word == "begin":
        keeper.begin(rest[0])
    elif word == "step":
        keeper.step(rest[0], rest[1])
    else:
        keeper.demand(rest[0])


def is_given(keeper, line):
    """Whether the order of a line is one, and was done."""
    order = order_in(keeper.house, line)
    if order is None:
        return False
    try:
        give(keeper, order)
    except SettledError:
        return False
    return True

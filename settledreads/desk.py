"""A desk: a keeper that is asked by lines.

Each function say_.. gives the answer to the words behind the first one, None if they cannot stand there.
"""

from settledreads.deeds import kept_names
from settledreads.errors import BadLine
from settledreads.journals import read_journal
from settledreads.orders import manner_by, numbers_of
from settledreads.seeing import sees
from settledreads.texts import is_name, number_of, words_of
from settledreads.views import View

DONE = "ok"
NOTHING = "-"


def say_install(keeper, words):
    """The number of the edition that is installed."""
    worths = numbers_of(words)
    return None if worths is None else str(keeper.install(View.whole(keeper.house.sheet, worths)))


def say_begin(keeper, words):
    """The number of the work that begins."""
    return str(keeper.begin(words[0])) if is_lone_name(words) else None


def say_renew(keeper, words):
    """A kept part is begun anew."""
    if not is_lone_name(words):
        return None
    keeper.renew(words[0])
    return DONE


def say_manner(keeper, words):
    """All works keep a manner, or none."""
    if not is_lone_name(words):
        return None
    keeper.demand(manner_by(words[0]))
    return DONE


def say_undo(keeper, words):
    """The last order is taken back."""
    if words:
        return None
    keeper.undo()
    return DONE


def say_redo(keeper, words):
    """An order is done again."""
    if words:
        return None
    keeper.redo()
    return DONE


def say_step(keeper, words):
    """What the step of a work reads."""
    numbers = numbers_of(words)
    if numbers is None or len(numbers) > 2:
        return None
    told = keeper.step(*numbers)
    if told is None:
        return DONE
    key, worth = told
    return f"{key} = {worth}"


def say_get(keeper, words):
    """The present worth of a key."""
    return str(keeper[words[0]]) if is_lone_name(words) else None


def say_kept(keeper, words):
    """What each kept part keeps."""
    if words:
        return None
    names = kept_names(keeper.road)
    return "; ".join([f"{name} {number}" for name, number in zip(names, keeper.kept)]) or NOTHING


def say_places(keeper, words):
    """Where a work is."""
    number = lone_number(words)
    return None if number is None else " ".join([str(place) for place in keeper.places(number)]) or NOTHING


def say_reads(keeper, words):
    """What a work has read."""
    number = lone_number(words)
    if number is None:
        return None
    return "; ".join([f"{key} = {worth} of {edition}" for key, worth, edition in keeper.reads(number)]) or NOTHING


def say_manners(keeper, words):
    """The manners that a work has kept."""
    number = lone_number(words)
    return None if number is None else " ".join(keeper.manners(number)) or NOTHING


def say_risk(keeper, words):
    """Whether a work may yet break a manner."""
    number = lone_number(words[:1])
    if number is None or not is_lone_name(words[1:]):
        return None
    word, told = keeper.risk(number, words[1])
    return f"{word} {len(told)}"


def say_sees(keeper, words):
    """Whether works of a part keep a manner."""
    if len(words) != 2 or not are_all_names(words):
        return None
    word, told = sees(keeper.house, words[0], words[1])
    rows = told if word == "always" else told[2]
    return f"{word} {len(rows)}"


def say_anew(keeper, words):
    """Which kept parts must be begun anew, where each has the price 1."""
    if len(words) < 2 or not are_all_names(words):
        return None
    prices = tuple([1 for _ in keeper.kept])
    return " ".join(keeper.anew(tuple(words[1:]), words[0], prices)[1]) or NOTHING


ANSWERS = {
    "install": say_install, "begin": say_begin, "renew": say_renew, "manner": say_manner, "undo": say_undo,
    "redo": say_redo, "step": say_step, "get": say_get, "kept": say_kept, "places": say_places, "reads": say_reads,
    "manners": say_manners, "risk": say_risk, "sees": say_sees, "anew": say_anew,
}


def is_lone_name(words):
    """Whether there is one word, a name."""
    return len(words) == 1 and is_name(words[0])


def are_all_names(words):
    """Whether all words are names."""
    return all([is_name(word) for word in words])


def lone_number(words):
    """The number that the only word tells, None if it tells none, or is not the only one."""
    return number_of(words[0]) if len(words) == 1 else None


class Desk:
    """The keeper of a journal, and what it says to lines."""

    def __init__(self, text):
        self._keeper = read_journal(text)

    @property
    def keeper(self):
        """The Keeper."""
        return self._keeper

    def say(self, line):
        """The answer to a line: BadLine; then as the keeper, and the functions."""
        words = words_of(line) if isinstance(line, str) else [""]
        if words[0] not in ANSWERS:
            raise BadLine(line)
        answer = ANSWERS[words[0]]
        told = answer(self._keeper, words[1:])
        if told is None:
            raise BadLine(line)
        return told

"""Keepers: settings that are kept while works run."""

from settledreads.anew import anew
from settledreads.courses import one_road
from settledreads.deeds import kept_names
from settledreads.errors import BadEdition, BadStep, Broken, Busy, NoPart, NothingToRedo, NothingToUndo, NoWork, Over
from settledreads.errors import Risky, Unkept
from settledreads.forms import is_number
from settledreads.houses import number_of_part
from settledreads.lits import truth
from settledreads.manners import MANNERS, check_manner
from settledreads.moments import Moment
from settledreads.orders import journal_text
from settledreads.readings import Reading
from settledreads.risks import SAFE, is_risk, risk_of
from settledreads.running import manners_kept, reads_told
from settledreads.trials import Trial
from settledreads.views import Draft, View, is_edition


class Keeper:
    """The editions of a house, its kept parts and its works, by orders that can be taken back.

    done and undone have rows (order, the Moment behind it); trying is the Block that it is in, if there is one.
    """

    def __init__(self, house, edition, *, manner=None):
        if not is_edition(edition) or edition.sheet != house.sheet:
            raise BadEdition(edition)
        if manner is not None:
            check_manner(MANNERS, manner)
        self._house = house
        self.road = one_road(house)
        self.first_moment = Moment(edition, (edition.worths,), tuple([0 for _ in self.road.keeping]), (), manner)
        self.done = []
        self.undone = []
        self.trying = None
        self.readings_made = []

    @property
    def house(self):
        """The House."""
        return self._house

    @property
    def edition(self):
        """The View of the present edition."""
        return self.now().present_view

    @property
    def editions(self):
        """The worths of all editions, by their numbers."""
        return self.now().installed

    @property
    def kept(self):
        """The numbers of the editions that the kept parts keep."""
        return self.now().keeping_now

    @property
    def works(self):
        """How many works were begun."""
        return len(self.now().going)

    @property
    def orders(self):
        """The orders that stand."""
        return tuple([order for order, _ in self.done])

    @property
    def journal(self):
        """The text from which an equal keeper can be read."""
        first = self.first_moment
        return journal_text(self._house.text, first.present_view.worths, first.aim, self.orders)

    @property
    def manner(self):
        """The manner that all works keep, or None."""
        return self.now().aim

    @manner.setter
    def manner(self, value):
        self.demand(value)

    def now(self):
        """The Moment behind all orders that stand."""
        return self.done[-1][1] if self.done else self.first_moment

    def did(self, order, moment):
        """An order was done."""
        self.done.append((order, moment))
        self.undone = []

    def install(self, value):
        """The next edition, a View or a Draft; returns its number: BadEdition."""
        view = value.view if isinstance(value, Draft) else value
        if not isinstance(view, View) or view.sheet != self._house.sheet or not view.is_whole:
            raise BadEdition(value)
        if not view.is_lawful:
            raise BadEdition(value) from Broken(first_broken(view))
        moment = self.now().with_view(view)
        self.did(("install", view.worths), moment)
        return moment.present()

    def renew(self, part):
        """A kept part is begun anew: NoPart, Busy."""
        if part not in kept_names(self.road):
            raise NoPart(part)
        number = self.road.part_names.index(part)
        if self.now().has_open(self._house, number) or number in [row.part_number() for row in self.open_readings()]:
            raise Busy(part)
        self.did(("renew", part), self.now().with_renewed(self.road, number))

    def begin(self, part):
        """A work begins; returns its number: NoPart, Unkept, TooMany."""
        number = number_of_part(self._house, part)
        moment = self.now()
        work = moment.beginning(self._house, self.road, number)
        if moment.aim is not None and not self.is_safe(work, moment.aim):
            raise Unkept(part)
        self.did(("begin", part), moment.with_begun(work))
        return len(moment.going)

    def step(self, work, n=0):
        """The next step of a work; returns (key, worth) of a read, else None: NoWork, Over, BadStep."""
        ahead = self.work_of(work)
        if not ahead.openings:
            raise Over(work)
        moment = self.now()
        behind = moment.stepped(self._house, self.road, work, n)
        if behind is None:
            raise BadStep(n)
        self.did(("step", work, n), moment.with_work(work, behind))
        told = reads_told(self._house.sheet, behind)
        return told[-1][:2] if len(told) > len(ahead.told_reads) else None

    def places(self, work):
        """The places of a work's open parts: NoWork."""
        return self.work_of(work).open_lines()

    def reads(self, work):
        """The (key, worth, number of the edition) of a work's reads: NoWork."""
        return reads_told(self._house.sheet, self.work_of(work))

    def manners(self, work):
        """The manners that a work has kept so far: NoWork."""
        return manners_kept(self._house.sheet, self.work_of(work))

    def risk(self, work, manner):
        """("safe", table), or ("risky", events) of fewest events: NoWork, BadManner, TooMany."""
        told = self.work_of(work)
        check_manner(MANNERS, manner)
        return risk_of(self._house, self.road, self.now(), told, manner)

    def shows_risk(self, work, manner, value):
        """Whether a value is such a result of risk as is right by itself: NoWork, BadManner."""
        told = self.work_of(work)
        check_manner(MANNERS, manner)
        return is_risk(self._house, self.road, self.now(), told, manner, value)

    def anew(self, parts, manner, prices):
        """The least set of kept parts to be begun anew, by the editions that are held now: as anew."""
        moment = self.now()
        numbers = sorted(set([*moment.keeping_now, moment.present()]))
        editions = tuple([moment.installed[number] for number in numbers])
        kept = tuple([numbers.index(number) for number in moment.keeping_now])
        return anew(self._house, parts, editions, kept, manner, prices)

    def reading(self, part):
        """A Reading that begins with a part: NoPart."""
        number = number_of_part(self._house, part)
        return Reading(self, None, (number, *self.road.begun(number, self.now().present())))

    def undo(self):
        """Takes the last order back: Busy, NothingToUndo."""
        self.check_idle()
        if not self.done:
            raise NothingToUndo(None)
        self.undone.append(self.done.pop())

    def redo(self):
        """Does the order again that was taken back last: Busy, NothingToRedo."""
        self.check_idle()
        if not self.undone:
            raise NothingToRedo(None)
        self.done.append(self.undone.pop())

    def trial(self):
        """A block behind which all is as ahead of it, unless it is kept: Busy."""
        self.check_idle()
        return Trial(self)

    def tried(self, look, *, keep=False):
        """What look returns, called with this keeper in a trial: Busy."""
        with self.trial() as attempt:
            told = look(self)
            if keep is True:
                attempt.keep()
        return told

    def copy(self):
        """An independent keeper, alike in all: Busy."""
        self.check_idle()
        first = self.first_moment
        other = Keeper(self._house, first.present_view, manner=first.aim)
        other.done = list(self.done)
        other.undone = list(self.undone)
        return other

    def demand(self, manner):
        """All works keep this manner from now on, or none: BadManner, Risky, TooMany."""
        moment = self.now()
        if manner is not None:
            check_manner(MANNERS, manner)
            for number, work in enumerate(moment.going):
                if work.openings and not self.is_safe(work, manner):
                    raise Risky(number)
        self.did(("manner", manner), moment.with_manner(manner))

    def is_safe(self, work, manner):
        """Whether a Work keeps a manner, whatever comes from now on: TooMany."""
        return risk_of(self._house, self.road, self.now(), work, manner)[0] == SAFE

    def work_of(self, value):
        """The Work with this number: NoWork."""
        going = self.now().going
        if not is_number(value, 0, len(going) - 1):
            raise NoWork(value)
        return going[value]

    def all_told(self):
        """What makes keepers equal: the house, the first edition, the first manner, and the orders."""
        return self._house.text, self.first_moment.installed, self.first_moment.aim, self.orders

    def remember(self, reading):
        """A reading was opened."""
        self.readings_made = [*self.open_readings(), reading]

    def open_readings(self):
        """All readings that are not over."""
        return [reading for reading in self.readings_made if not reading.is_over()]

    def check_idle(self):
        """Busy while a reading is open."""
        if self.open_readings():
            raise Busy(None)

    def __getitem__(self, key):
        return self.now().present_view[key]

    def __contains__(self, key):
        return key in self.now().present_view

    def __iter__(self):
        raise TypeError("a keeper is not iterated over")

    def __eq__(self, other):
        return isinstance(other, Keeper) and self.all_told() == other.all_told()


def first_broken(view):
    """The number of the first rule that is False of a view that has all keys, but is no edition."""
    rules = view.sheet.rules
    broken = [number for number, rule in enumerate(rules) if truth(rule.lits, view.worths) is False]
    return broken[0]

"""Runs of houses: what their works read, and which manners they keep."""

from settledreads.courses import one_road, read_run
from settledreads.houses import number_of_part
from settledreads.manners import MANNERS, keeps


def ran(house, part, run):
    """(reads, places) of a run: NoPart, BadRun."""
    course = read_run(house, one_road(house), number_of_part(house, part), run)
    return reads_told(house.sheet, course.work), course.work.open_lines()


def kept_manners(house, part, run):
    """The ascending tuple of the manners that the work of a run keeps: NoPart, BadRun."""
    course = read_run(house, one_road(house), number_of_part(house, part), run)
    return manners_kept(house.sheet, course.work)


def reads_told(sheet, work):
    """The (key, worth, number of the edition) of all reads of a work."""
    return tuple([(sheet.names[place], worths[0], numbers[0]) for _, place, numbers, worths in work.told_reads])


def manners_kept(sheet, work):
    """The manners that a work keeps, ascending."""
    return tuple([manner for manner in MANNERS if is_kept(sheet, manner, work)])


def is_kept(sheet, manner, work):
    """Whether the reads of a work keep a manner."""
    rows = work.told_reads
    if manner == "lawful":
        return are_lawful(sheet, [(place, worths[0]) for _, place, _, worths in rows])
    return keeps(manner, [(opening, numbers) for opening, _, numbers, _ in rows], work.begun_by)


def are_lawful(sheet, pairs):
    """Whether some edition has all worths of these (place of the key, worth)."""
    return any([all([edition[place] == worth for place, worth in pairs]) for edition in sheet.editions])
